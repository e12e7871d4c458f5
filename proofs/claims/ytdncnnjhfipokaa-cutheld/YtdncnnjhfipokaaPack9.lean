import Derived.Test.YtdncnnjhfipokaaPack6
import Derived.Test.YtdncnnjhfipokaaPack1
import Derived.Test.YtdncnnjhfipokaaPack8
namespace Go.Proofs.Ytdncnnjhfipokaa
open Go.RowKit
set_option maxRecDepth 8000
theorem step_appS {ops : Array Oper} {o : Oper} {a : Act} {w : World} {K : Act → World → Prop} {Q : Exit → Act → World → Prop} {E : Prop}
    (hgd : o.guard = none) (s x : Operand) (t e : TypeId) (i : TypeInfo) (z : Value) (size bytes : Nat) (Kd : Kind t e i z size bytes) (hop : o.op = Op.call { callee := Callee.builtin Builtin.append, args := #[s, x], argTypes := #[t, t] })
    (base : Nat) (v : Value) (n : Nat) (xs : List Value) (hs : a.eval s = v) (hown : w.ownsRow base e size v n xs)
    (p : Option Addr) (m c : Nat) (news : List Value) (hx : a.eval x = .slice p m c) (hsrc : Src w p m c size news) (h1 : ∀ u ∈ news, u.oneCell' = true)
    (h63 : n + m ≤ 140737488355328) (hbytes : (n + m) * bytes ≤ 140737488355328) (hbase : base ≤ w.heap.size)
    (hK : ∀ v' w', w'.ownsRow base e size v' (n + m) (xs ++ news) → w.grownBy w' v.ownBlock → Near w v v' → K (a.put o.dst v') w') :
    if Region.wanted o (yielded ops a.tmps) = true then Oper.wp Try.prog o a w K Q else E := by
  rcases hsrc with ⟨rfl, rfl, rfl, rfl⟩ | ⟨ad, rfl, hl, hnews⟩
  · have hw : Region.wanted o (yielded ops a.tmps) = true := by simp [Region.wanted, hgd]
    rw [if_pos hw]
    have hrun := run_append_owned_none (P := Try.prog) (w := w) base t o.type e i size Kd.ht Kd.hi v n xs hown
    unfold Oper.wp
    simp [execOp, hop, resolve, invoke, builtin, hs, hx, hrun, Result.andThen]
    exact hK v w (by simpa using hown) ⟨rfl, rfl, rfl, Nat.le_refl _, fun _ _ _ => rfl⟩ (.inl rfl)
  · exact step_app hgd s x t e i z size bytes Kd hop base v n xs hs hown ad m c news hx hl hnews h1 h63 hbytes hbase hK
end Go.Proofs.Ytdncnnjhfipokaa

namespace Go.Proofs.Ytdncnnjhfipokaa
open Go.RowKit
set_option maxRecDepth 8000
def Bk.setLog (K : Bk) (i : Nat) (l : LT RT) : Bk := { K with lg := fun j => if j = i then l else K.lg j }
theorem Bk.lv_set (K : Bk) (i : Nat) (l : LT RT) : (K.setLog i l).lv i = .slice l.p l.n l.c := by simp [Bk.setLog, Bk.lv]
theorem Bk.lv_ne (K : Bk) {i j : Nat} (l : LT RT) (h : j ≠ i) : (K.setLog i l).lv j = K.lv j := by simp [Bk.setLog, Bk.lv, h]
theorem Bk.arr_set (K : Bk) {i : Nat} (hi : i < 4) (l : LT RT) : K.arr.setIfInBounds (12 + i) (.slice l.p l.n l.c) = (K.setLog i l).arr := by
  rcases (by omega : i = 0 ∨ i = 1 ∨ i = 2 ∨ i = 3) with rfl | rfl | rfl | rfl <;> simp [Bk.arr, Bk.setLog]
structure SetLog (w : World) (b : Nat) (K : Bk) (w' : World) (K' : Bk) : Prop where
  inv : BkI w' b K'
  but : But (K.C b) w w'
  cs : ∀ k, K'.C b k → K.C b k ∨ w.heap.size ≤ k
theorem BkI.lt {w : World} {b : Nat} {K : Bk} (h : BkI w b K) {k : Nat} (hk : K.C b k) : k < w.heap.size := by
  rcases hk with rfl | ⟨i, hi, e⟩
  · exact h.box.lt
  · exact ((h.own i hi).lt k e).2
theorem BkI.setLog {w w1 w2 : World} {b : Nat} {K : Bk} {i : Nat} {l : LT RT} (h : BkI w b K) (hi : i < 4) (hb : Below w.heap.size w w1) (ho : w2.ownsRow 0 36 6 (.slice l.p l.n l.c) l.n (rowsR l)) (hg : w1.grownBy w2 (K.lv i).ownBlock) (hn : Near w1 (K.lv i) (.slice l.p l.n l.c)) :
    SetLog w b K (w2.setCell ⟨b, 12 + i, none⟩ (.slice l.p l.n l.c)) (K.setLog i l) := by
  have h1 := h.below hb
  have hlt : ∀ k, K.C b k → k < w1.heap.size := fun k hk => Nat.lt_of_lt_of_le (h.lt hk) hb.size
  have hbx : Box w2 b K.arr 78 := h1.box.kept (hg.block b h1.box.lt (fun e => h.ne i hi e.symm))
  have hvb : (Value.slice l.p l.n l.c).ownBlock ≠ some b := fun e => by
    rcases hn with h2 | h2
    · exact h.ne i hi (h2 ▸ e)
    · have := h2 b e; have := h1.box.lt; omega
  have hset : ∀ k, k ≠ b → (w2.setCell ⟨b, 12 + i, none⟩ (.slice l.p l.n l.c)).heap[k]? = w2.heap[k]? := fun k hk => Below.heap_setCell _ _ _ _ hk
  refine ⟨⟨?_, fun j hj => ?_, fun j hj => ?_, fun j q hj hq hjq k hk => ?_, h.m0, h.m1, h.p0, h.p1, h.b0, h.b1, h.n0, h.n1, h.s0⟩, ?_, fun k hk => ?_⟩
  · have := hbx.set (12 + i) (.slice l.p l.n l.c)
    rwa [Bk.arr_set K hi l] at this
  · by_cases hji : j = i
    · subst hji
      rw [Bk.lv_set, show (K.setLog j l).lg j = l by simp [Bk.setLog]]
      exact ownsRow_keep ho fun k hk _ => hset k (fun e => hvb (e ▸ hk))
    · rw [Bk.lv_ne K l hji, show (K.setLog i l).lg j = K.lg j by simp [Bk.setLog, hji]]
      exact ownsRow_keep (ownsRow_keep (h1.own j hj) fun k hk hl => hg.block k hl (fun e => h.dis j i hj hi hji k hk e.symm)) fun k hk _ => hset k (fun e => h.ne j hj (e ▸ hk))
  · by_cases hji : j = i
    · subst hji; rw [Bk.lv_set]; exact hvb
    · rw [Bk.lv_ne K l hji]; exact h.ne j hj
  · have hold : ∀ j, j < 4 → ∀ k, (K.lv j).ownBlock = some k → k < w1.heap.size := fun j hj k e => hlt k (.inr ⟨j, hj, e⟩)
    by_cases hji : j = i
    · subst hji
      rw [Bk.lv_set] at hk
      rw [Bk.lv_ne K l (fun e => hjq e.symm)]
      rcases hn with h2 | h2
      · exact h.dis j q hj hq hjq k (h2 ▸ hk)
      · intro e; have := hold q hq k e; have := h2 k hk; omega
    · rw [Bk.lv_ne K l hji] at hk
      by_cases hqi : q = i
      · subst hqi
        rw [Bk.lv_set]
        rcases hn with h2 | h2
        · rw [h2]; exact h.dis j q hj hq hjq k hk
        · intro e; have := hold j hj k hk; have := h2 k e; omega
      · rw [Bk.lv_ne K l hqi]; exact h.dis j q hj hq hjq k hk
  · refine ((But.ofBelow hb).grown hg (fun k e _ => .inr ⟨i, hi, e⟩)).setCell (p := ⟨b, 12 + i, none⟩) (fun _ => .inl rfl) _
  · rcases hk with rfl | ⟨j, hj, e⟩
    · exact .inl (.inl rfl)
    · by_cases hji : j = i
      · subst hji
        rw [Bk.lv_set] at e
        rcases hn with h2 | h2
        · exact .inl (.inr ⟨j, hj, h2 ▸ e⟩)
        · exact .inr (Nat.le_trans hb.size (h2 k e))
      · rw [Bk.lv_ne K l hji] at e
        exact .inl (.inr ⟨j, hj, e⟩)
/-- a list with one item more, at another place -/
def LT.push {α : Type} (l : LT α) (p : Option Addr) (c : Nat) (u : α) : LT α := ⟨p, l.n + 1, c, fun q => if q < l.n then l.item q else u⟩
theorem rowsR_push (l : LT RT) (p : Option Addr) (c : Nat) (u : RT) : rowsR (l.push p c u) = rowsR l ++ elRec.cells u := by
  unfold rowsR LT.push
  simp only
  rw [List.range_succ, List.flatMap_append]
  congr 1
  · rw [List.flatMap_def, List.flatMap_def]
    congr 1
    apply List.map_congr_left
    intro j hj
    rw [if_pos (List.mem_range.1 hj)]
  · simp
/-- a list with other items behind it -/
def LT.join {α : Type} (l m : LT α) (p : Option Addr) (c : Nat) : LT α := ⟨p, l.n + m.n, c, fun q => if q < l.n then l.item q else m.item (q - l.n)⟩
theorem rowsR_join (l m : LT RT) (p : Option Addr) (c : Nat) : rowsR (l.join m p c) = rowsR l ++ rowsR m := by
  unfold rowsR LT.join
  simp only
  rw [List.range_add, List.flatMap_append]
  congr 1
  · rw [List.flatMap_def, List.flatMap_def]
    congr 1
    apply List.map_congr_left
    intro j hj
    rw [if_pos (List.mem_range.1 hj)]
  · rw [List.flatMap_map, List.flatMap_def, List.flatMap_def]
    congr 1
    apply List.map_congr_left
    intro j _
    rw [if_neg (by omega), show l.n + j - l.n = j by omega]
/-- the item's blocks stay apart from what changes -/
theorem RT.In.apart {w w1 w2 : World} {b : Nat} {K : Bk} {i : Nat} {l : LT RT} {u : RT} (h : BkI w b K) (hi : i < 4) (hu : RT.In w1 (fun k => w.heap.size ≤ k) u) (hg : w1.grownBy w2 (K.lv i).ownBlock) (hn : Near w1 (K.lv i) (.slice l.p l.n l.c)) :
    RT.In (w2.setCell ⟨b, 12 + i, none⟩ (.slice l.p l.n l.c)) (fun k => w.heap.size ≤ k ∧ ¬ (K.setLog i l).C b k) u := by
  have hu2 : RT.In w1 (fun k => (w.heap.size ≤ k ∧ ¬ (K.setLog i l).C b k)) u := hu.mono fun k hk hl => by
    refine ⟨hk, fun e => ?_⟩
    rcases e with rfl | ⟨j, hj, e⟩
    · have := h.box.lt; omega
    · by_cases hji : j = i
      · subst hji
        rw [Bk.lv_set] at e
        rcases hn with h2 | h2
        · have := ((h.own j hj).lt k (h2 ▸ e)).2; omega
        · have := h2 k e; omega
      · rw [Bk.lv_ne K l hji] at e
        have := ((h.own j hj).lt k e).2; omega
  refine (hu2.kept hg.size (fun k hk hl => hg.block k hl (fun e => ?_))).kept (by simp [World.setCell]) (fun k hk _ => Below.heap_setCell _ _ _ _ (fun e => ?_))
  · have := ((h.own i hi).lt k e.symm).2; omega
  · have := h.box.lt; simp only at e; omega
end Go.Proofs.Ytdncnnjhfipokaa
