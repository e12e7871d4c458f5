import Derived.Test.YtbkikbhodgjijaaYG
namespace Go.Proofs.Ytbkikbhodgjijaa
open Go.RowKit
set_option maxRecDepth 8000
/-- the one copy of a task between two places -/
def OneCp (f : Nat → TR) (a b : Nat) (i k : Int) (m : Nat) : Prop := a ≤ m ∧ m < b ∧ (f m).cp i k ∧ ∀ q, a ≤ q → q < b → (f q).cp i k → q = m
def AllCp (f : Nat → TR) (a b : Nat) (i : Int) (T : Nat) : Prop := ∀ k : Nat, k < T → ∃ m, OneCp f a b i (k : Int) m
def CSeek (f : Nat → TR) (a : Nat) (i k : Int) (j : Nat) (x : Int) : Prop := (x = -1 ∧ ∀ q, a ≤ q → q < j → ¬ (f q).cp i k) ∨ ∃ m : Nat, x = (m : Int) ∧ OneCp f a j i k m
theorem CSeek.start (f : Nat → TR) (a : Nat) (i k : Int) : CSeek f a i k a (-1) := .inl ⟨rfl, fun q h1 h2 => by omega⟩
theorem CSeek.miss {f : Nat → TR} {a : Nat} {i k : Int} {j : Nat} {x : Int} (h : CSeek f a i k j x) (hn : ¬ (f j).cp i k) : CSeek f a i k (j + 1) x := by
  rcases h with ⟨rfl, h⟩ | ⟨m, rfl, h1, h2, h3, h4⟩
  · refine .inl ⟨rfl, fun q h1 h2 => ?_⟩
    by_cases hq : q = j
    · subst hq; exact hn
    · exact h q h1 (by omega)
  · refine .inr ⟨m, rfl, h1, by omega, h3, fun q g1 g2 g3 => ?_⟩
    by_cases hq : q = j
    · subst hq; exact (hn g3).elim
    · exact h4 q g1 (by omega) g3
theorem CSeek.hit {f : Nat → TR} {a : Nat} {i k : Int} {j : Nat} {x : Int} (h : CSeek f a i k j x) (hj : a ≤ j) (hx : x < 0) (hn : (f j).cp i k) : CSeek f a i k (j + 1) (j : Int) := by
  rcases h with ⟨rfl, h⟩ | ⟨m, rfl, h1, h2, h3, h4⟩
  · refine .inr ⟨j, rfl, hj, by omega, hn, fun q h1 h2 h3 => ?_⟩
    by_cases hq : q = j
    · exact hq
    · exact (h q h1 (by omega) h3).elim
  · omega
theorem CSeek.two {f : Nat → TR} {a : Nat} {i k : Int} {j b : Nat} {x : Int} (h : CSeek f a i k j x) (hx : ¬ x < 0) (hj : a ≤ j) (hb : j < b) (hn : (f j).cp i k) : ¬ ∃ m, OneCp f a b i k m := by
  rintro ⟨m, g1, g2, g3, g4⟩
  rcases h with ⟨rfl, h⟩ | ⟨y, rfl, h1, h2, h3, h4⟩
  · omega
  · have e1 := g4 y h1 (by omega) h3
    have e2 := g4 j hj hb hn
    omega
theorem CSeek.done {f : Nat → TR} {a : Nat} {i k : Int} {b : Nat} {x : Int} (h : CSeek f a i k b x) : (x = -1 ∧ ¬ ∃ m, OneCp f a b i k m) ∨ ∃ m : Nat, x = (m : Int) ∧ OneCp f a b i k m := by
  rcases h with ⟨rfl, h⟩ | h
  · refine .inl ⟨rfl, ?_⟩
    rintro ⟨m, g1, g2, g3, g4⟩
    exact h m g1 g2 g3
  · exact .inr h
theorem OneCp.uniq {f : Nat → TR} {a b : Nat} {i k : Int} {m m' : Nat} (h : OneCp f a b i k m) (g : OneCp f a b i k m') : m = m' := g.2.2.2 m h.1 h.2.1 h.2.2.1
/-- the events of the d entries from a on for which P holds -/
def evsF (f : Nat → TR) (P : Nat → Bool) (a : Nat) : Nat → List EV
  | 0 => []
  | d + 1 => if (f (a + d)).kind = 1 ∧ P (a + d) = true then evsF f P a d ++ [(f (a + d)).ev] else evsF f P a d
theorem evsF_yes {f : Nat → TR} {P : Nat → Bool} {a d : Nat} (h : (f (a + d)).kind = 1) (hp : P (a + d) = true) : evsF f P a (d + 1) = evsF f P a d ++ [(f (a + d)).ev] := by
  rw [evsF, if_pos ⟨h, hp⟩]
theorem evsF_no {f : Nat → TR} {P : Nat → Bool} {a d : Nat} (h : ¬ ((f (a + d)).kind = 1 ∧ P (a + d) = true)) : evsF f P a (d + 1) = evsF f P a d := by
  rw [evsF, if_neg h]
theorem evsF_len (f : Nat → TR) (P : Nat → Bool) (a d : Nat) : (evsF f P a d).length ≤ d := by
  induction d with
  | zero => exact Nat.le_refl _
  | succ d ih =>
    rw [evsF]
    split
    · simp; exact ih
    · omega
theorem evsF_congr {f : Nat → TR} {P P' : Nat → Bool} {a : Nat} : ∀ {d : Nat}, (∀ q, a ≤ q → q < a + d → (f q).kind = 1 → P q = P' q) → evsF f P a d = evsF f P' a d := by
  intro d
  induction d with
  | zero => intro _; rfl
  | succ d ih =>
    intro h
    rw [evsF, evsF, ih (fun q h1 h2 h3 => h q h1 (by omega) h3)]
    by_cases hk : (f (a + d)).kind = 1
    · rw [h (a + d) (by omega) (by omega) hk]
    · rw [if_neg (fun h => hk h.1), if_neg (fun h => hk h.1)]
/-- events in a row of the call's own -/
def EvRow (base : Nat) (w : World) (v : Value) (xs : List EV) : Prop := w.ownsRow base 39 2 v xs.length (xs.flatMap EV.cells)
theorem EvRow.nil (base : Nat) (w : World) : EvRow base w (.slice none 0 0) [] := World.ownsRow_nil _ _ _ _
theorem EvRow.keep {base : Nat} {w w' : World} {v : Value} {xs : List EV} (h : EvRow base w v xs) (hb : ∀ k, base ≤ k → k < w.heap.size → w'.heap[k]? = w.heap[k]?) : EvRow base w' v xs := ownsRow_keep h fun g hg hl => hb g (h.lt g hg).1 hl
theorem EvRow.below {base : Nat} {w w' : World} {v : Value} {xs : List EV} (h : EvRow base w v xs) (hb : Below w.heap.size w w') : EvRow base w' v xs := h.keep fun k _ hl => hb.block k hl
theorem EvRow.mono {base base' : Nat} {w : World} {v : Value} {xs : List EV} (h : EvRow base w v xs) (hb : base' ≤ base) : EvRow base' w v xs := ownsRow_mono h hb
theorem EvRow.push {base : Nat} {w : World} {v : Value} {xs : List EV} {x : EV} (h : w.ownsRow base 39 2 v (xs.length + 1) (xs.flatMap EV.cells ++ x.cells)) : EvRow base w v (xs ++ [x]) := by
  unfold EvRow
  rw [List.length_append, List.flatMap_append]
  simpa using h
theorem range_getD {α : Type} (d : α) (xs : List α) : (List.range xs.length).map (fun j => xs.getD j d) = xs := by
  apply List.ext_getElem
  · simp
  · intro i h1 h2
    simp [h2]
theorem EvRow.own {base : Nat} {w : World} {v : Value} {xs : List EV} (h : EvRow base w v xs) : OwnL elEv base w v xs.length (fun j => xs.getD j ⟨0, 0⟩) := by
  refine ⟨?_, fun _ _ => trivial⟩
  have e : ((List.range xs.length).flatMap fun j => elEv.cells (xs.getD j ⟨0, 0⟩)) = xs.flatMap EV.cells := by
    conv => rhs; rw [← range_getD ⟨0, 0⟩ xs]
    rw [List.flatMap_map]
    rfl
  rw [e]
  exact h
theorem EvRow.in_ {base : Nat} {w : World} {v : Value} {xs : List EV} (h : EvRow base w v xs) (hn : xs.length ≤ 140737488355328) : ∃ p c, v = .slice p xs.length c ∧ LT.In elEv w (fun b => base ≤ b) ⟨p, xs.length, c, fun j => xs.getD j ⟨0, 0⟩⟩ := h.own.in_ hn
theorem kindEv : ∃ i, Kind 31 39 i (.agg #[.int .i64 0, .int .i64 0]) 2 16 := by
  obtain ⟨i0, hi, hz0, hz1, hz2⟩ := info_parts (show (Try.prog.info? 39).map (fun i => (i.zero, i.size, i.bytes)) = some (some (.agg #[.int .i64 0, .int .i64 0]), 2, 16) by kernel_rfl)
  exact ⟨i0, Try.underlying31, hi, hz0, hz1, hz2, rfl, by decide⟩
theorem kindTr : ∃ i, Kind 22 37 i (.agg #[.int .i64 0, .int .i64 0, .int .i64 0, .int .i64 0]) 4 32 := by
  obtain ⟨i0, hi, hz0, hz1, hz2⟩ := info_parts (show (Try.prog.info? 37).map (fun i => (i.zero, i.size, i.bytes)) = some (some (.agg #[.int .i64 0, .int .i64 0, .int .i64 0, .int .i64 0]), 4, 32) by kernel_rfl)
  exact ⟨i0, Try.underlying22, hi, hz0, hz1, hz2, rfl, by decide⟩
theorem kindIn : ∃ i, Kind 23 3 i (.int .i64 0) 1 8 := by
  obtain ⟨i0, hi, hz0, hz1, hz2⟩ := info_parts (show (Try.prog.info? 3).map (fun i => (i.zero, i.size, i.bytes)) = some (some (.int .i64 0), 1, 8) by kernel_rfl)
  exact ⟨i0, Try.underlying23, hi, hz0, hz1, hz2, rfl, by decide⟩
/-- ints in a row of the call's own -/
def InRow (base : Nat) (w : World) (v : Value) (xs : List Int) : Prop := w.ownsRow base 3 1 v xs.length (xs.flatMap elInt.cells)
theorem InRow.nil (base : Nat) (w : World) : InRow base w (.slice none 0 0) [] := World.ownsRow_nil _ _ _ _
theorem InRow.keep {base : Nat} {w w' : World} {v : Value} {xs : List Int} (h : InRow base w v xs) (hb : ∀ k, base ≤ k → k < w.heap.size → w'.heap[k]? = w.heap[k]?) : InRow base w' v xs := ownsRow_keep h fun g hg hl => hb g (h.lt g hg).1 hl
theorem InRow.below {base : Nat} {w w' : World} {v : Value} {xs : List Int} (h : InRow base w v xs) (hb : Below w.heap.size w w') : InRow base w' v xs := h.keep fun k _ hl => hb.block k hl
theorem InRow.mono {base base' : Nat} {w : World} {v : Value} {xs : List Int} (h : InRow base w v xs) (hb : base' ≤ base) : InRow base' w v xs := ownsRow_mono h hb
theorem InRow.push {base : Nat} {w : World} {v : Value} {xs : List Int} {x : Int} (h : w.ownsRow base 3 1 v (xs.length + 1) (xs.flatMap elInt.cells ++ [.int .i64 x])) : InRow base w v (xs ++ [x]) := by
  unfold InRow
  rw [List.length_append, List.flatMap_append]
  simpa [elInt] using h
/-- an int of such a row -/
theorem InRow.at_ {base : Nat} {w : World} {v : Value} {xs : List Int} (h : InRow base w v xs) (hn : 0 < xs.length) : ∃ g c, v = .slice (some ⟨g, 0, none⟩) xs.length c ∧ base ≤ g ∧ g < w.heap.size ∧ xs.length ≤ c ∧ ∀ (j : Nat) (x : Int), xs[j]? = some x → w.cell? ⟨g, j, none⟩ = some (.int .i64 x) ∧ w.frozen? ⟨g, j, none⟩ = false := by
  have hlt := h.lt
  have hce := @World.ownsRow.cells _ _ _ _ _ _ _ h
  obtain ⟨_, ⟨hv, h0⟩ | ⟨gb, cap, cur, hv, hbg, hh, hnc, hcm, hcs, htake⟩⟩ := id h
  · omega
  · refine ⟨gb, cap, hv, hbg, (hlt gb (by rw [hv]; rfl)).2, hnc, fun j x hx => ?_⟩
    have hfl : ∀ (xs : List Int) (j : Nat), (xs.flatMap elInt.cells)[j]? = (xs[j]?).map (Value.int .i64) := by
      intro xs
      induction xs with
      | nil => intro j; simp
      | cons y ys ih =>
        intro j
        cases j with
        | zero => simp [elInt]
        | succ j => simpa [elInt] using ih j
    have := hce (g := gb) (by rw [hv]; rfl) j (.int .i64 x) (by rw [hfl, hx]; rfl)
    rw [Go.WideShapes.add_plain, Nat.zero_add] at this
    exact ⟨this, by simp [World.frozen?, hh]⟩
end Go.Proofs.Ytbkikbhodgjijaa
