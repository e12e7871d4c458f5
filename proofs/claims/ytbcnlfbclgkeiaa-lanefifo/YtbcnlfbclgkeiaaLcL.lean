import Derived.Test.YtbcnlfbclgkeiaaLcK
namespace Go.Proofs.Ytbcnlfbclgkeiaa
open Go.RowKit Go.Conc
set_option maxRecDepth 8000
theorem LSet.z {w w' : World} {Z Z' : Nat → Prop} {b : Nat} {L L' : Ln} (h : LSet w Z b L w' L') (hz : ∀ k, Z' k → Z k) : LSet w Z' b L w' L' := ⟨h.ln.z fun k _ hk => hz k hk, h.but, h.c, h.room⟩
/-- what lies outside of a lane's blocks stays -/
theorem LSet.keep {α : Type} (E : El α) {w w' : World} {Z T : Nat → Prop} {b : Nat} {L L' : Ln} {x : α} (h : LSet w Z b L w' L') (hx : E.In w (fun k => ¬ L.C b k ∧ T k) x) : E.In w' (fun k => ¬ L'.C b k ∧ T k) x := by
  have h1 := E.mono (S' := fun k => (¬ L.C b k ∧ T k) ∧ k < w.heap.size) hx fun k hk hl => ⟨hk, hl⟩
  have h2 := E.kept h1 h.but.size fun k hk hl => h.but.block k hl hk.1.1
  refine E.mono h2 fun k hk _ => ⟨fun e => ?_, hk.1.2⟩
  rcases h.c k e with e | e
  · exact hk.1.1 e
  · omega
theorem LSet.keepL {α : Type} (E : El α) {w w' : World} {Z T : Nat → Prop} {b : Nat} {L L' : Ln} {l : LT α} (h : LSet w Z b L w' L') (hl : LT.In E w (fun k => ¬ L.C b k ∧ T k) l) : LT.In E w' (fun k => ¬ L'.C b k ∧ T k) l := by
  have h1 := LT.In.mono (S' := fun k => (¬ L.C b k ∧ T k) ∧ k < w.heap.size) hl fun k hk hl => ⟨hk, hl⟩
  have h2 := LT.In.kept h1 h.but.size fun k hk hl => h.but.block k hl hk.1.1
  refine LT.In.mono h2 fun k hk _ => ⟨fun e => ?_, hk.1.2⟩
  rcases h.c k e with e | e
  · exact hk.1.1 e
  · omega
/-- a row that grows beside a lane -/
structure GL {α : Type} (E : El α) (B : Nat) (T : Nat → Prop) (w : World) (Z : Nat → Prop) (b : Nat) (L : Ln) (v : Value) (n : Nat) (g : Nat → α) : Prop where
  ln : LnI w (fun k => Z k ∨ v.ownBlock = some k) b L
  own : w.ownsRow B E.ty E.size v n ((List.range n).flatMap fun j => E.cells (g j))
  each : ∀ j, j < n → E.In w (fun k => ¬ L.C b k ∧ T k ∧ v.ownBlock ≠ some k) (g j)
section
variable {α : Type} {E : El α} {B : Nat} {T : Nat → Prop} {w w' : World} {Z : Nat → Prop} {b : Nat} {L L' : Ln} {v v' : Value} {n : Nat} {g : Nat → α} {u : α}
theorem GL.nil (h : LnI w Z b L) (g : Nat → α) : GL E B T w Z b L (.slice none 0 0) 0 g :=
  ⟨h.z (fun k _ hk => hk.elim id fun e => by cases e), World.ownsRow_nil _ _ _ _, fun j hj => absurd hj (Nat.not_lt_zero j)⟩
theorem GL.lane (h : GL E B T w Z b L v n g) (s : LSet w (fun k => Z k ∨ v.ownBlock = some k) b L w' L') : GL E B T w' Z b L' v n g := by
  refine ⟨s.ln, ownsRow_keep h.own fun k hk hl => s.but.block k hl fun e => h.ln.cz k e (.inr hk), fun j hj => s.keep E (h.each j hj)⟩
theorem GL.below (h : GL E B T w Z b L v n g) (hb : Below w.heap.size w w') : GL E B T w' Z b L v n g := h.lane (LSet.below h.ln hb)
theorem GL.push (h : GL E B T w Z b L v n g) (hu : E.In w (fun k => ¬ L.C b k ∧ T k ∧ v.ownBlock ≠ some k) u)
    (hown : w'.ownsRow B E.ty E.size v' (n + 1) (((List.range n).flatMap fun j => E.cells (g j)) ++ E.cells u)) (hg : w.grownBy w' v.ownBlock) (hn : Near w v v') :
    GL E B T w' Z b L v' (n + 1) (fun j => if j < n then g j else u) := by
  have hbt : But (fun k => v.ownBlock = some k) w w' := (But.refl _ w).grown hg fun k hk _ => hk
  have hl : LnI w' (fun k => Z k ∨ v'.ownBlock = some k) b L := by
    have h1 : LnI w (fun k => Z k ∨ v.ownBlock = some k ∨ v'.ownBlock = some k) b L := h.ln.z fun k hk hz => by
      rcases hz with e | e | e
      · exact .inl e
      · exact .inr e
      · rcases hn with h1 | h1
        · exact .inr (h1 ▸ e)
        · have := h1 k e; omega
    exact (h1.but hbt fun k _ e => .inr (.inl e)).z fun k _ hz => by
      rcases hz with e | e
      · exact .inl e
      · exact .inr (.inr e)
  have key : ∀ x, E.In w (fun k => ¬ L.C b k ∧ T k ∧ v.ownBlock ≠ some k) x → E.In w' (fun k => ¬ L.C b k ∧ T k ∧ v'.ownBlock ≠ some k) x := by
    intro x hx
    have h1 : E.In w (fun k => (¬ L.C b k ∧ T k ∧ v.ownBlock ≠ some k) ∧ v'.ownBlock ≠ some k) x := by
      refine E.mono hx fun k hk hl => ⟨hk, fun e => ?_⟩
      rcases hn with h1 | h1
      · exact hk.2.2 (h1 ▸ e)
      · have := h1 k e; omega
    have h2 := E.kept h1 hg.size fun k hk hl => hg.block k hl fun e => hk.1.2.2 e.symm
    exact E.mono h2 fun k hk _ => ⟨hk.1.1, hk.1.2.1, hk.2⟩
  refine ⟨hl, ?_, fun j hj => ?_⟩
  · have e : ((List.range (n + 1)).flatMap fun j => E.cells (if j < n then g j else u)) = ((List.range n).flatMap fun j => E.cells (g j)) ++ E.cells u := by
      rw [List.range_succ, List.flatMap_append]
      congr 1
      · rw [List.flatMap_def, List.flatMap_def]
        congr 1
        apply List.map_congr_left
        intro j hj
        rw [if_pos (List.mem_range.1 hj)]
      · simp
    rw [e]
    exact hown
  · by_cases hjn : j < n
    · rw [if_pos hjn]; exact key _ (h.each j hjn)
    · rw [if_neg hjn]; exact key _ hu
/-- the row as a list -/
theorem GL.in_ (h : GL E B T w Z b L v n g) (hnn : n ≤ 140737488355328) : ∃ p c, v = .slice p n c ∧ LT.In E w (fun k => ¬ L.C b k ∧ (T k ∨ B ≤ k)) ⟨p, n, c, g⟩ := by
  have hlt := h.own.lt
  have hce := @World.ownsRow.cells _ _ _ _ _ _ _ h.own
  have hcz := h.ln.cz
  obtain ⟨_, ⟨hv, h0⟩ | ⟨gb, cap, cur, hv, hbg, hh, hnc, hcm, hcs, htake⟩⟩ := id h.own
  · subst h0
    exact ⟨none, 0, hv, LT.In.none_ E w _ none 0 g (Nat.zero_le _) (fun _ => rfl)⟩
  · refine ⟨_, cap, hv, fun hn => ⟨gb, 0, rfl, ⟨fun e => hcz gb e (.inr (by rw [hv]; rfl)), .inr hbg⟩, (hlt gb (by rw [hv]; rfl)).2, fun j hj r u hu => ?_⟩, fun j hj => E.mono (h.each j hj) fun k hk _ => ⟨hk.1, .inl hk.2.1⟩, hnc, hnn, hcm, fun h => by cases h⟩
    have hr : r < E.size := by
      rcases Nat.lt_or_ge r E.size with h1 | h1
      · exact h1
      · rw [List.getElem?_eq_none (by rw [E.len]; exact h1)] at hu; cases hu
    have := hce (g := gb) (by rw [hv]; rfl) (j * E.size + r) u (by rw [range_flat_get E g n j r hj hr]; exact hu)
    rw [Go.WideShapes.add_plain] at this
    rw [show (0 : Nat) + j * E.size + r = 0 + (j * E.size + r) by omega]
    exact this
end
/-- a lane beside which a new row was written -/
theorem LSet.row {w0 w w' : World} {Z X : Nat → Prop} {b : Nat} {L0 L : Ln} (h : LSet w0 Z b L0 w L) (hb : But X w w') (hX : ∀ k, X k → w0.heap.size ≤ k) (hl : LnI w' Z b L) : LSet w0 Z b L0 w' L := by
  refine ⟨hl, ⟨hb.os.trans h.but.os, hb.tape.trans h.but.tape, hb.output.trans h.but.output, Nat.le_trans h.but.size hb.size, fun k hk hn => ?_⟩, h.c, h.room⟩
  exact (hb.block k (Nat.lt_of_lt_of_le hk h.but.size) fun e => by have := hX k e; omega).trans (h.but.block k hk hn)
/-- what Pull leaves behind so many rounds -/
def pullQ (A : List IT) (m : IT) (B : List IT) (j : Nat) : List IT := if j ≤ A.length then A.drop j ++ m :: (B ++ A.take j) else B.drop (j - A.length - 1) ++ (A ++ B.take (j - A.length - 1))
theorem pullQ_0 (A : List IT) (m : IT) (B : List IT) : pullQ A m B 0 = A ++ m :: B := by simp [pullQ]
theorem pullQ_end (A : List IT) (m : IT) (B : List IT) : pullQ A m B (A.length + 1 + B.length) = A ++ B := by
  unfold pullQ
  rw [if_neg (by omega), show A.length + 1 + B.length - A.length - 1 = B.length by omega]
  simp
theorem pullQ_A (A : List IT) (m : IT) (B : List IT) {j : Nat} {x : IT} (hx : A[j]? = some x) : ∃ q', pullQ A m B j = x :: q' ∧ pullQ A m B (j + 1) = q' ++ [x] := by
  have hj : j < A.length := by
    rcases Nat.lt_or_ge j A.length with h | h
    · exact h
    · rw [List.getElem?_eq_none h] at hx; cases hx
  refine ⟨A.drop (j + 1) ++ m :: (B ++ A.take j), ?_, ?_⟩
  · unfold pullQ
    rw [if_pos (by omega), List.drop_eq_getElem_cons hj]
    rw [List.getElem?_eq_getElem hj] at hx
    injection hx with hx
    rw [hx]
    rfl
  · unfold pullQ
    rw [if_pos (by omega), List.take_add_one, hx]
    simp
theorem pullQ_m (A : List IT) (m : IT) (B : List IT) : pullQ A m B A.length = m :: (B ++ A) ∧ pullQ A m B (A.length + 1) = B ++ A := by
  unfold pullQ
  refine ⟨?_, ?_⟩
  · rw [if_pos (Nat.le_refl _)]; simp
  · rw [if_neg (by omega), show A.length + 1 - A.length - 1 = 0 by omega]; simp
theorem pullQ_B (A : List IT) (m : IT) (B : List IT) {i : Nat} {x : IT} (hx : B[i]? = some x) : ∃ q', pullQ A m B (A.length + 1 + i) = x :: q' ∧ pullQ A m B (A.length + 1 + i + 1) = q' ++ [x] := by
  have hi : i < B.length := by
    rcases Nat.lt_or_ge i B.length with h | h
    · exact h
    · rw [List.getElem?_eq_none h] at hx; cases hx
  refine ⟨B.drop (i + 1) ++ (A ++ B.take i), ?_, ?_⟩
  · unfold pullQ
    rw [if_neg (by omega), show A.length + 1 + i - A.length - 1 = i by omega, List.drop_eq_getElem_cons hi]
    rw [List.getElem?_eq_getElem hi] at hx
    injection hx with hx
    rw [hx]
    rfl
  · unfold pullQ
    rw [if_neg (by omega), show A.length + 1 + i + 1 - A.length - 1 = i + 1 by omega, List.take_add_one, hx]
    simp
/-- the first marker -/
theorem first_mark : ∀ (q : List IT), nR q ≠ q.length → ∃ A m B, q = A ++ m :: B ∧ (∀ x ∈ A, x.mark = 0) ∧ m.mark ≠ 0
  | [], h => absurd rfl h
  | x :: q, h => by
    by_cases hx : x.mark = 0
    · rw [nR_cons0 q hx, List.length_cons] at h
      obtain ⟨A, m, B, e, h1, h2⟩ := first_mark q (by omega)
      refine ⟨x :: A, m, B, by rw [e]; rfl, fun y hy => ?_, h2⟩
      rcases List.mem_cons.1 hy with e | e
      · rw [e]; exact hx
      · exact h1 y e
    · exact ⟨[], x, q, rfl, (fun y hy => by cases hy), hx⟩
end Go.Proofs.Ytbcnlfbclgkeiaa
