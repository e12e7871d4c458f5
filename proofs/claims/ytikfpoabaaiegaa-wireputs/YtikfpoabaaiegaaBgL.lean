import Derived.Test.YtikfpoabaaiegaaPack28
import Derived.Test.YtikfpoabaaiegaaPack11
import Derived.Test.YtikfpoabaaiegaaPack9
import Derived.Deep.RegionLaw
import Derived.Deep.DeepCutAuto
namespace Go.Proofs.Ytikfpoabaaiegaa
open Go.RowKit
set_option maxRecDepth 8000
/-- append(l, x...), x nil or not, in a drawn region -/
theorem step_appS {ops : Array Oper} {o : Oper} {a : Act} {w : World} {K : Act → World → Prop} {Q : Exit → Act → World → Prop} {E : Prop}
    (hgd : o.guard = none) (s x : Operand) (t e : TypeId) (i : TypeInfo) (z : Value) (size bytes : Nat) (Kd : Kind t e i z size bytes) (hop : o.op = Op.call { callee := Callee.builtin Builtin.append, args := #[s, x], argTypes := #[t, t] })
    (base : Nat) (v : Value) (n : Nat) (xs : List Value) (hs : a.eval s = v) (hown : w.ownsRow base e size v n xs)
    (p : Option Addr) (m c : Nat) (news : List Value) (hx : a.eval x = .slice p m c) (hsrc : Src w p m c size news) (h1 : ∀ u ∈ news, u.oneCell' = true)
    (h63 : n + m ≤ 140737488355328) (hbytes : (n + m) * bytes ≤ 140737488355328) (hbase : base ≤ w.heap.size)
    (hK : ∀ v' w', w'.ownsRow base e size v' (n + m) (xs ++ news) → w.grownBy w' v.ownBlock → Near w v v' → K (a.put o.dst v') w') :
    if Region.wanted o (yielded ops a.tmps) = true then Oper.wp Try.prog o a w K Q else E := by
  rcases hsrc with ⟨rfl, rfl, rfl, rfl⟩ | ⟨ad, rfl, hl, hnews⟩
  · have hw : Region.wanted o (yielded ops a.tmps) = true := by simp [Region.wanted, hgd]
    rw [if_pos hw]
    have hrun := run_append_owned_none (P := Try.prog) (w := w) base t o.type e i size Kd.ht Kd.hi v n xs hown
    unfold Oper.wp
    simp [execOp, hop, resolve, invoke, builtin, hs, hx, hrun, Result.andThen]
    exact hK v w (by simpa using hown) ⟨rfl, rfl, rfl, Nat.le_refl _, fun _ _ _ => rfl⟩ (.inl rfl)
  · exact step_app hgd s x t e i z size bytes Kd hop base v n xs hs hown ad m c news hx hl hnews h1 h63 hbytes hbase hK
/-- a row that grew, and is then written to -/
theorem grown_but {w w3 w4 : World} {c c' : Value} {g : Nat} (hg : w.grownBy w3 c.ownBlock) (hn : Near w c c') (hc : c'.ownBlock = some g) (hs : But (fun x => x = g) w3 w4) : w.grownBy w4 c.ownBlock := by
  refine ⟨hs.os.trans hg.os, hs.tape.trans hg.tape, hs.output.trans hg.output, Nat.le_trans hg.size hs.size, fun k hk hne => (hs.block k (Nat.lt_of_lt_of_le hk hg.size) fun e => ?_).trans (hg.block k hk hne)⟩
  subst e
  rcases hn with h1 | h1
  · exact hne (by rw [← h1, hc])
  · have := h1 k hc; omega
/-- a row's last item is written whole -/
theorem stored4 {w : World} {base g cap n : Nat} {e : TypeId} {xs : List Value} {z0 z1 z2 z3 : Value} (h : w.ownsRow base e 4 (.slice (some ⟨g, 0, none⟩) (n + 1) cap) (n + 1) (xs ++ [z0, z1, z2, z3])) (hx : xs.length = n * 4) (u0 u1 u2 u3 : Value) :
    ((((w.setCell ⟨g, n * 4, none⟩ u0).setCell ⟨g, n * 4 + 1, none⟩ u1).setCell ⟨g, n * 4 + 2, none⟩ u2).setCell ⟨g, n * 4 + 3, none⟩ u3).ownsRow base e 4 (.slice (some ⟨g, 0, none⟩) (n + 1) cap) (n + 1) (xs ++ [u0, u1, u2, u3]) := by
  have h4 := ((((h.stored (n * 4) u0).1.stored (n * 4 + 1) u1).1.stored (n * 4 + 2) u2).1.stored (n * 4 + 3) u3).1
  have e4 : ((((xs ++ [z0, z1, z2, z3]).set (n * 4) u0).set (n * 4 + 1) u1).set (n * 4 + 2) u2).set (n * 4 + 3) u3 = xs ++ [u0, u1, u2, u3] := by
    rw [← hx]
    simp
  rw [e4] at h4
  exact h4
theorem one_str (s : ByteArray) : ∀ u ∈ [Value.string s], u.oneCell' = true := by intro u hu; simp at hu; subst hu; rfl
theorem one_int (s : Int) : ∀ u ∈ [Value.int .i64 s], u.oneCell' = true := by intro u hu; simp at hu; subst hu; rfl
theorem one_ints (l : List Int) : ∀ u ∈ intC l, u.oneCell' = true := by intro u hu; obtain ⟨z, _, rfl⟩ := List.mem_map.1 hu; rfl
theorem new_one (w : World) (u : Value) (e : TypeId) (n : Nat) (hn : n = w.heap.size) : ∀ j x, [u][j]? = some x → ((w.alloc (.cells #[u] e)).drew).cell? ((⟨n, 0, none⟩ : Addr).add j) = some x := by
  subst hn
  exact fun j x h => cell_one_new w u e j x h
theorem last4 {w : World} {base g cap n : Nat} {e : TypeId} {xs ys : List Value} (h : w.ownsRow base e 4 (.slice (some ⟨g, 0, none⟩) (n + 1) cap) (n + 1) (xs ++ ys)) (hx : xs.length = n * 4) (r : Nat) (u : Value) (hu : ys[r]? = some u) : w.cell? ⟨g, n * 4 + r, none⟩ = some u := by
  have := h.cells (g := g) rfl (n * 4 + r) u (by rw [List.getElem?_append_right (by omega), hx, show n * 4 + r - n * 4 = r by omega]; exact hu)
  rw [Go.WideShapes.add_plain, Nat.zero_add] at this
  exact this
theorem valC_len (V : List VT) : (valC V).length = V.length * 4 := by
  induction V with
  | nil => rfl
  | cons q V ih => rw [show valC (q :: V) = q.cells ++ valC V by simp [valC], List.length_append, ih]; simp [VT.cells]; omega
theorem one_zero : ∀ u ∈ [Value.int .i64 0, .int .i64 0, .string ⟨#[]⟩, .slice none 0 0], u.oneCell' = true := by
  intro u hu
  simp at hu
  rcases hu with rfl | rfl | rfl <;> rfl
theorem setCell_comm (w : World) {g r i j : Nat} (h : g ≠ r) (u v : Value) : (w.setCell ⟨r, j, none⟩ v).setCell ⟨g, i, none⟩ u = (w.setCell ⟨g, i, none⟩ u).setCell ⟨r, j, none⟩ v := by
  unfold World.setCell
  simp only
  congr 1
  apply Array.ext
  · simp
  · intro k h1 h2
    simp only [Array.getElem_modify]
    by_cases h3 : r = k
    · subst h3
      rw [if_neg h, if_pos rfl, if_pos rfl, if_neg h]
    · by_cases h4 : g = k
      · subst h4
        simp [h3]
      · simp [h3, h4]
theorem head_first (w : World) {g r i j : Nat} (h : g ≠ r) (v u0 u1 u2 u3 : Value) : ((((w.setCell ⟨r, j, none⟩ v).setCell ⟨g, i, none⟩ u0).setCell ⟨g, i + 1, none⟩ u1).setCell ⟨g, i + 2, none⟩ u2).setCell ⟨g, i + 3, none⟩ u3 = ((((w.setCell ⟨g, i, none⟩ u0).setCell ⟨g, i + 1, none⟩ u1).setCell ⟨g, i + 2, none⟩ u2).setCell ⟨g, i + 3, none⟩ u3).setCell ⟨r, j, none⟩ v := by
  rw [setCell_comm w h, setCell_comm _ h, setCell_comm _ h, setCell_comm _ h]
theorem But.setFour (w : World) (g i : Nat) (u0 u1 u2 u3 : Value) : But (fun x => x = g) w ((((w.setCell ⟨g, i, none⟩ u0).setCell ⟨g, i + 1, none⟩ u1).setCell ⟨g, i + 2, none⟩ u2).setCell ⟨g, i + 3, none⟩ u3) := ((((But.one w g).setAt _ _).setAt _ _).setAt _ _).setAt _ _
theorem near_ne {w : World} {v v' : Value} {q : Nat} (hn : Near w v v') (h : v.ownBlock ≠ some q) (hq : q < w.heap.size) : v'.ownBlock ≠ some q := fun e => by
  rcases hn with h1 | h1
  · exact h (h1 ▸ e)
  · have := h1 q e; omega
end Go.Proofs.Ytikfpoabaaiegaa
