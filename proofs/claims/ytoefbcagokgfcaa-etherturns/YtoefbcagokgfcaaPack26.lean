import Derived.Test.YtoefbcagokgfcaaUcB
import Derived.Test.YtoefbcagokgfcaaUdF
import Derived.Test.YtoefbcagokgfcaaUdG
import Derived.Test.YtoefbcagokgfcaaPack12
namespace Go.Proofs.Ytoefbcagokgfcaa
open Go.RowKit
set_option maxRecDepth 8000
/-- what lies between two sizes of the memory -/
def Bt (a b : Nat) (k : Nat) : Prop := a ≤ k ∧ k < b
/-- the network and the book, apart from one another -/
structure HS (W w : World) (Z : Nat → Prop) (b kb : Nat) (m : Int) (A : List FA) (l : LT FY) (cp dl dr fl : Nat) : Prop where
  et : EtA w Z b m A
  bk : BkI w Z kb l cp dl dr fl
  lt : ∀ k, Z k → k < w.heap.size
  lo : ∀ k, k < W.heap.size → Z k
  bel : Below W.heap.size W w
section
variable {W w w' : World} {Z : Nat → Prop} {b kb : Nat} {m : Int} {A A' : List FA} {l : LT FY} {cp dl dr fl : Nat}
theorem Fr.lo' (hb : Fr Z w w') (hlo : ∀ k, k < W.heap.size → Z k) (hs : W.heap.size ≤ w.heap.size) : Below W.heap.size w w' := But.below hb hs fun k hk h => h (hlo k hk)
theorem HS.ether (h : HS W w Z b kb m A l cp dl dr fl) (hb : Fr Z w w') (hE : EtA w' Z b m A') : HS W w' Z b kb m A' l cp dl dr fl :=
  ⟨hE, h.bk.fr hb, fun k hk => Nat.lt_of_lt_of_le (h.lt k hk) hb.size, h.lo, h.bel.trans (Fr.lo' hb h.lo h.bel.size)⟩
theorem HS.below (h : HS W w Z b kb m A l cp dl dr fl) (hb : Below w.heap.size w w') : HS W w' (fun k => Z k ∨ Bt w.heap.size w'.heap.size k) b kb m A l cp dl dr fl := by
  have hs := hb.size
  refine ⟨h.et.below hb (fun k hk hz => hz.resolve_right (fun e => by have := e.1; omega)), (h.bk.below hb).mono (fun k hk => .inl hk), fun k hk => ?_, fun k hk => .inl (h.lo k hk), h.bel.trans (hb.mono h.bel.size)⟩
  rcases hk with hk | hk
  · have := h.lt k hk; omega
  · exact hk.2
/-- one of the counts is another now -/
theorem HS.count (h : HS W w Z b kb m A l cp dl dr fl) (r : Nat) (cp' dl' dr' fl' : Nat) (n : Nat)
    (e : (#[Value.slice l.p l.n l.c, .int .i64 (cp : Int), .int .i64 (dl : Int), .int .i64 (dr : Int), .int .i64 (fl : Int)] : Array Value).setIfInBounds r (.int .i64 (n : Int)) = #[.slice l.p l.n l.c, .int .i64 (cp' : Int), .int .i64 (dl' : Int), .int .i64 (dr' : Int), .int .i64 (fl' : Int)])
    (hkb : ¬ kb < W.heap.size) : HS W (w.setCell ⟨kb, r, none⟩ (.int .i64 (n : Int))) Z b kb m A l cp' dl' dr' fl' := by
  have hbt : But (fun k => k = kb) w (w.setCell ⟨kb, r, none⟩ (.int .i64 (n : Int))) := (But.one w kb).setAt r _
  have hbz : But Z w (w.setCell ⟨kb, r, none⟩ (.int .i64 (n : Int))) := hbt.mono fun k _ e => by rw [show k = kb from e]; exact h.bk.zb
  have hne : ∀ k, k ≠ kb → (w.setCell ⟨kb, r, none⟩ (.int .i64 (n : Int))).heap[k]? = w.heap[k]? := fun k hk => Below.heap_setCell _ _ _ _ (by simpa using hk)
  have hrk : (Value.slice l.p l.n l.c).ownBlock ≠ some kb := fun e => by
    obtain ⟨_, cur, hc⟩ := h.bk.row.lt e
    have := box_ty h.bk.bx hc
    cases this
  refine ⟨h.et.but hbz (fun _ _ hz => hz), ⟨?_, h.bk.zb, h.bk.row.kept fun g hg _ => hne g (fun e => hrk (by rw [← e]; exact hg)), h.bk.zr, fun j hj => ?_⟩, fun k hk => Nat.lt_of_lt_of_le (h.lt k hk) hbt.size, h.lo, h.bel.trans (hbt.below h.bel.size fun k hk e => hkb (by rw [← show k = kb from e]; exact hk))⟩
  · have h1 := h.bk.bx.set r (.int .i64 (n : Int))
    rw [e] at h1
    exact h1
  · exact elFY.kept (h.bk.each j hj) hbt.size fun g hS _ => hne g hS.2.1
end
/-- one flight more is written down -/
def addY (l : LT FY) (u : FY) (p : Option Addr) (c : Nat) : LT FY := ⟨p, l.n + 1, c, fun j => if j < l.n then l.item j else u⟩
theorem addY_fas (l : LT FY) (u : FY) (p : Option Addr) (c : Nat) : fas (addY l u p c) = fas l ++ [u.a] := by
  unfold fas addY
  rw [List.range_succ, List.map_append]
  congr 1
  · apply List.map_congr_left
    intro j hj
    show (if j < l.n then l.item j else u).a = _
    rw [if_pos (List.mem_range.1 hj)]
  · simp
theorem HS.add {W w w3 : World} {Z : Nat → Prop} {b kb : Nat} {m : Int} {A : List FA} {l : LT FY} {cp dl dr fl : Nat} {u : FY} {p' : Option Addr} {c' : Nat} (h : HS W w Z b kb m A l cp dl dr fl) (hkb : ¬ kb < W.heap.size) (hrw : ∀ g, (Value.slice l.p l.n l.c).ownBlock = some g → ¬ g < W.heap.size)
    (hu : Byts w (fun k => Z k ∧ k ≠ kb ∧ (Value.slice l.p l.n l.c).ownBlock ≠ some k) u.y.p u.y.n u.y.c u.y.f) (ho : RowX w3 (.slice p' (l.n + 1) c') (l.n + 1) (((List.range l.n).flatMap fun j => elFY.cells (l.item j)) ++ elFY.cells u)) (hg : w.grownBy w3 (Value.slice l.p l.n l.c).ownBlock) (hn : Near w (.slice l.p l.n l.c) (.slice p' (l.n + 1) c')) :
    HS W (w3.setCell ⟨kb, 0, none⟩ (.slice p' (l.n + 1) c')) (fun k => Z k ∨ Bt w.heap.size w3.heap.size k) b kb m A (addY l u p' c') cp dl dr fl ∧ (∀ g, (Value.slice p' (l.n + 1) c').ownBlock = some g → ¬ g < W.heap.size) ∧ kb < w3.heap.size ∧ w3.cell? ⟨kb, 0, none⟩ = some (.slice l.p l.n l.c) ∧ w3.frozen? ⟨kb, 0, none⟩ = false := by
  have hrk : (Value.slice l.p l.n l.c).ownBlock ≠ some kb := fun e => by
    obtain ⟨_, cur, hc⟩ := h.bk.row.lt e
    have := box_ty h.bk.bx hc
    cases this
  have hgs := hg.size
  have hbl := h.bk.bx.lt
  have hbx3 : Box w3 kb _ 45 := h.bk.bx.kept (hg.block kb h.bk.bx.lt (fun e => hrk e.symm))
  have hbg : But (fun k => (Value.slice l.p l.n l.c).ownBlock = some k) w w3 := (But.refl _ _).grown hg fun k hk _ => hk
  have hb1 : But (fun k => (Value.slice l.p l.n l.c).ownBlock = some k ∨ k = kb) w (w3.setCell ⟨kb, 0, none⟩ (.slice p' (l.n + 1) c')) := (hbg.mono fun k _ hk => .inl hk).setCell (p := ⟨kb, 0, none⟩) (fun _ => .inr rfl) _
  have hbz : But Z w (w3.setCell ⟨kb, 0, none⟩ (.slice p' (l.n + 1) c')) := hb1.mono fun k _ hk => by
    rcases hk with hk | rfl
    · exact h.bk.zr k hk
    · exact h.bk.zb
  have hsz : (w3.setCell ⟨kb, 0, none⟩ (.slice p' (l.n + 1) c')).heap.size = w3.heap.size := by simp [World.setCell]
  have hne : ∀ k, k ≠ kb → (w3.setCell ⟨kb, 0, none⟩ (.slice p' (l.n + 1) c')).heap[k]? = w3.heap[k]? := fun k hk => Below.heap_setCell _ _ _ _ (by simpa using hk)
  have hv'k : (Value.slice p' (l.n + 1) c').ownBlock ≠ some kb := fun e => by
    rcases hn with h1 | h1
    · exact hrk (h1 ▸ e)
    · have := h1 kb e; omega
  have key : ∀ x : FY, elFY.In w (fun k => Z k ∧ k ≠ kb ∧ (Value.slice l.p l.n l.c).ownBlock ≠ some k) x → elFY.In (w3.setCell ⟨kb, 0, none⟩ (.slice p' (l.n + 1) c')) (fun k => (Z k ∨ Bt w.heap.size w3.heap.size k) ∧ k ≠ kb ∧ (Value.slice p' (l.n + 1) c').ownBlock ≠ some k) x := by
    intro x hx
    have h1 : elFY.In w (fun k => (Z k ∧ k ≠ kb ∧ (Value.slice l.p l.n l.c).ownBlock ≠ some k) ∧ k < w.heap.size) x := elFY.mono hx fun k hk hl => ⟨hk, hl⟩
    refine elFY.mono (elFY.kept h1 (by rw [hsz]; exact hgs) fun k hk hl => (hne k hk.1.2.1).trans (hg.block k hl (fun e => hk.1.2.2 e.symm))) fun k hk _ => ⟨.inl hk.1.1, hk.1.2.1, fun e => ?_⟩
    rcases hn with h2 | h2
    · exact hk.1.2.2 (h2 ▸ e)
    · have := h2 k e
      have := hk.2
      omega
  refine ⟨⟨h.et.but hbz (fun k hk hz => hz.resolve_right (fun e => by have := e.1; omega)), ⟨?_, .inl h.bk.zb, ?_, ?_, ?_⟩, ?_, fun k hk => .inl (h.lo k hk), ?_⟩, ?_, hbx3.lt, ?_, hbx3.frozen 0⟩
  · have h1 := hbx3.set 0 (.slice p' (l.n + 1) c')
    simpa [addY] using h1
  · have e : ((List.range (l.n + 1)).flatMap fun j => elFY.cells ((addY l u p' c').item j)) = ((List.range l.n).flatMap fun j => elFY.cells (l.item j)) ++ elFY.cells u := by
      rw [List.range_succ, List.flatMap_append]
      congr 1
      · rw [List.flatMap_def, List.flatMap_def]
        congr 1
        apply List.map_congr_left
        intro j hj
        show elFY.cells (if j < l.n then l.item j else u) = _
        rw [if_pos (List.mem_range.1 hj)]
      · simp [addY]
    show RowX _ (.slice p' (l.n + 1) c') (l.n + 1) ((List.range (l.n + 1)).flatMap fun j => elFY.cells ((addY l u p' c').item j))
    rw [e]
    exact ho.kept fun g hg' _ => hne g (fun e => hv'k (by rw [← e]; exact hg'))
  · intro g hg'
    have hg2 : (Value.slice p' (l.n + 1) c').ownBlock = some g := hg'
    rcases hn with h1 | h1
    · exact .inl (h.bk.zr g (h1 ▸ hg2))
    · exact .inr ⟨h1 g hg2, (ho.lt hg2).1⟩
  · intro j hj
    have hj' : j < l.n + 1 := hj
    show elFY.In _ (fun k => (Z k ∨ Bt w.heap.size w3.heap.size k) ∧ k ≠ kb ∧ (Value.slice p' (l.n + 1) c').ownBlock ≠ some k) (if j < l.n then l.item j else u)
    by_cases hjl : j < l.n
    · rw [if_pos hjl]; exact key _ (h.bk.each j hjl)
    · rw [if_neg hjl]; exact key u hu
  · intro k hk
    rw [hsz]
    rcases hk with hk | hk
    · have := h.lt k hk; omega
    · exact hk.2
  · refine h.bel.trans (hb1.below h.bel.size fun k hk e => ?_)
    rcases e with e | rfl
    · exact hrw k e hk
    · exact hkb hk
  · intro g hg'
    rcases hn with h1 | h1
    · exact hrw g (h1 ▸ hg')
    · have := h1 g hg'
      have := h.bel.size
      omega
  · have h1 := hbx3.cell 0
    simpa using h1
end Go.Proofs.Ytoefbcagokgfcaa

namespace Go.Proofs.Ytoefbcagokgfcaa
open Go.RowKit
set_option maxRecDepth 8000
/-- the program's network and the reference's, side by side, apart from the blocks of Z -/
structure PrI (w : World) (Z Z1 Z2 : Nat → Prop) (xb b rb : Nat) (m : Int) (A1 A2 : List FA) (N : Nat) : Prop where
  e : EtA w Z1 b m A1
  r : RfA w Z2 rb m A2 N
  bx : Box w xb #[.pointer (some ⟨b, 0, none⟩), .pointer (some ⟨rb, 0, none⟩)] 71
  x1 : Z1 xb
  x2 : Z2 xb
  nx : ¬ Z xb
  s1 : ∀ k, Z k → Z1 k
  s2 : ∀ k, Z k → Z2 k
  cov : ∀ k, k < w.heap.size → Z1 k ∨ Z2 k
  l1 : ∀ k, Z1 k → k < w.heap.size
  l2 : ∀ k, Z2 k → k < w.heap.size
section
variable {w w' : World} {Z Z1 Z2 : Nat → Prop} {xb b rb : Nat} {m : Int} {A1 A2 A' : List FA} {N N' : Nat}
theorem PrI.ether (h : PrI w Z Z1 Z2 xb b rb m A1 A2 N) (hF : Fr Z1 w w') (hE : EtA w' Z1 b m A') : PrI w' Z Z1 (fun k => Z2 k ∨ Bt w.heap.size w'.heap.size k) xb b rb m A' A2 N ∧ Fr Z w w' := by
  have hs := hF.size
  have hb2 : But Z2 w w' := hF.mono fun k hk hz => (h.cov k hk).resolve_left hz
  refine ⟨⟨hE, h.r.but hb2 (fun k hk hz => hz.resolve_right (fun e => by have := e.1; omega)), h.bx.but hF (fun e => e h.x1), h.x1, .inl h.x2, h.nx, h.s1, fun k hk => .inl (h.s2 k hk), fun k hk => ?_, fun k hk => Nat.lt_of_lt_of_le (h.l1 k hk) hs, fun k hk => ?_⟩, hF.mono fun k _ hz hzz => hz (h.s1 k hzz)⟩
  · by_cases hkw : k < w.heap.size
    · exact (h.cov k hkw).imp id .inl
    · exact .inr (.inr ⟨by omega, hk⟩)
  · rcases hk with hk | hk
    · have := h.l2 k hk; omega
    · exact hk.2
theorem PrI.ref (h : PrI w Z Z1 Z2 xb b rb m A1 A2 N) (hF : Fr Z2 w w') (hE : RfA w' Z2 rb m A' N') : PrI w' Z (fun k => Z1 k ∨ Bt w.heap.size w'.heap.size k) Z2 xb b rb m A1 A' N' ∧ Fr Z w w' := by
  have hs := hF.size
  have hb1 : But Z1 w w' := hF.mono fun k hk hz => (h.cov k hk).resolve_right hz
  refine ⟨⟨h.e.but hb1 (fun k hk hz => hz.resolve_right (fun e => by have := e.1; omega)), hE, h.bx.but hF (fun e => e h.x2), .inl h.x1, h.x2, h.nx, fun k hk => .inl (h.s1 k hk), h.s2, fun k hk => ?_, fun k hk => ?_, fun k hk => Nat.lt_of_lt_of_le (h.l2 k hk) hs⟩, hF.mono fun k _ hz hzz => hz (h.s2 k hzz)⟩
  · by_cases hkw : k < w.heap.size
    · exact (h.cov k hkw).imp .inl id
    · exact .inl (.inr ⟨by omega, hk⟩)
  · rcases hk with hk | hk
    · have := h.l1 k hk; omega
    · exact hk.2
/-- what others did, in blocks of theirs and in new ones -/
theorem PrI.but {Z' : Nat → Prop} (h : PrI w Z Z1 Z2 xb b rb m A1 A2 N) (hb : But Z w w') (hz : ∀ k, k < w.heap.size → Z' k → Z k) (hl : ∀ k, Z' k → k < w'.heap.size) : PrI w' Z' (fun k => Z1 k ∨ Bt w.heap.size w'.heap.size k) (fun k => Z2 k ∨ Bt w.heap.size w'.heap.size k) xb b rb m A1 A2 N := by
  have hs := hb.size
  have hxl := h.bx.lt
  refine ⟨h.e.but (hb.mono fun k _ hk => h.s1 k hk) (fun k hk hz => hz.resolve_right (fun e => by have := e.1; omega)), h.r.but (hb.mono fun k _ hk => h.s2 k hk) (fun k hk hz => hz.resolve_right (fun e => by have := e.1; omega)), h.bx.but hb h.nx, .inl h.x1, .inl h.x2, fun hk => h.nx (hz xb hxl hk), fun k hk => ?_, fun k hk => ?_, fun k hk => ?_, fun k hk => ?_, fun k hk => ?_⟩
  · by_cases hkw : k < w.heap.size
    · exact .inl (h.s1 k (hz k hkw hk))
    · exact .inr ⟨by omega, hl k hk⟩
  · by_cases hkw : k < w.heap.size
    · exact .inl (h.s2 k (hz k hkw hk))
    · exact .inr ⟨by omega, hl k hk⟩
  · by_cases hkw : k < w.heap.size
    · exact (h.cov k hkw).imp .inl .inl
    · exact .inl (.inr ⟨by omega, hk⟩)
  · rcases hk with hk | hk
    · have := h.l1 k hk; omega
    · exact hk.2
  · rcases hk with hk | hk
    · have := h.l2 k hk; omega
    · exact hk.2
theorem PrI.below (h : PrI w Z Z1 Z2 xb b rb m A1 A2 N) (hb : Below w.heap.size w w') : PrI w' Z (fun k => Z1 k ∨ Bt w.heap.size w'.heap.size k) (fun k => Z2 k ∨ Bt w.heap.size w'.heap.size k) xb b rb m A1 A2 N :=
  h.but (But.ofBelow hb) (fun _ _ hz => hz) (fun k hk => Nat.lt_of_lt_of_le (h.l1 k (h.s1 k hk)) hb.size)
theorem PrI.drew (h : PrI w Z Z1 Z2 xb b rb m A1 A2 N) : PrI w.drew Z Z1 Z2 xb b rb m A1 A2 N :=
  ⟨h.e.below (Below.refl _ _).drew (fun _ _ hz => hz), h.r.below (Below.refl _ _).drew (fun _ _ hz => hz), h.bx, h.x1, h.x2, h.nx, h.s1, h.s2, h.cov, h.l1, h.l2⟩
theorem PrI.mono (h : PrI w Z Z1 Z2 xb b rb m A1 A2 N) (hN : N ≤ N') : PrI w Z Z1 Z2 xb b rb m A1 A2 N' := ⟨h.e, h.r.mono hN, h.bx, h.x1, h.x2, h.nx, h.s1, h.s2, h.cov, h.l1, h.l2⟩
end
/-- a pair: both there and alike, or both not there -/
def Pr (w : World) (Z : Nat → Prop) (xb : Nat) (N : Nat) : Prop :=
  (∃ (Z1 Z2 : Nat → Prop) (b rb : Nat) (m : Int) (A : List FA), PrI w Z Z1 Z2 xb b rb m A A N) ∨ (Box w xb #[.pointer none, .pointer none] 71 ∧ ¬ Z xb ∧ ∀ k, Z k → k < w.heap.size)
theorem Pr.but {w w' : World} {Z Z' : Nat → Prop} {xb N : Nat} (h : Pr w Z xb N) (hb : But Z w w') (hz : ∀ k, k < w.heap.size → Z' k → Z k) (hl : ∀ k, Z' k → k < w'.heap.size) : Pr w' Z' xb N := by
  rcases h with ⟨Z1, Z2, b, rb, m, A, h⟩ | ⟨h1, h2, h3⟩
  · exact .inl ⟨_, _, b, rb, m, A, h.but hb hz hl⟩
  · exact .inr ⟨h1.but hb h2, fun hk => h2 (hz xb h1.lt hk), hl⟩
theorem Pr.lt {w : World} {Z : Nat → Prop} {xb N : Nat} (h : Pr w Z xb N) : xb < w.heap.size ∧ ¬ Z xb := by
  rcases h with ⟨Z1, Z2, b, rb, m, A, h⟩ | ⟨h1, h2, h3⟩
  · exact ⟨h.bx.lt, h.nx⟩
  · exact ⟨h1.lt, h2⟩
end Go.Proofs.Ytoefbcagokgfcaa
