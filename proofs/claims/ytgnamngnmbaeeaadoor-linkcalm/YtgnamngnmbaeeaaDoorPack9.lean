import Derived.Test.YtgnamngnmbaeeaaDoorPack8
import Derived.BigQuiet
namespace Go.Proofs.YtgnamngnmbaeeaaDoor
open Go.RowKit
set_option maxRecDepth 8000
/-- the worlds behind W in which all that was there stands -/
structure BW (W : World) where
  val : World
  prop : Below W.heap.size W val
instance BW.any (W : World) : Nonempty (BW W) := ⟨⟨W, Below.refl _ _⟩⟩
def BW.mk' {W V : World} (h : Below W.heap.size W V) : BW W := ⟨V, h⟩
theorem BW.fact {W : World} (u : BW W) {p : Addr} {x : Value} (h : W.cell? p = some x) (hl : p.block < W.heap.size) : u.val.cell? p = some x := (World.cell?_of_block (u.prop.block _ hl)).trans h
theorem BW.ret {W w' : World} {u : BW W} (h : Below u.val.heap.size u.val w') : ∃ u' : BW W, w' = u'.val := ⟨⟨w', u.prop.trans (h.mono u.prop.size)⟩, rfl⟩
/-- a region that draws and only reads; its callees may make new memory, their answers do not hang on it -/
theorem wp_region_bw {P : Program} {id : Nat} {Q : Exit → Act → World → Prop} {a : Act} {w : World} {l : List Oper} (W : World) (hw : Below W.heap.size W w.drew) (hm : P.follows .mixedOrders = true) (hB : Region.lexB .any l.toArray = true)
    (h : wpQuiet P l.toArray (fun w' => ∃ u : BW W, w' = u.val) (fun a' => ∀ w', (∃ u : BW W, w' = u.val) → Q .normal a' w') l a) : (Code.region id l.toArray true).wp P Q a w :=
  wp_region_quiet (C := fun w' => ∃ u : BW W, w' = u.val) hm hB ⟨⟨w.drew, hw⟩, rfl⟩ (by simpa using h)
end Go.Proofs.YtgnamngnmbaeeaaDoor

namespace Go.Proofs.YtgnamngnmbaeeaaDoor
open Go.RowKit
set_option maxRecDepth 8000
/-- j waits for i, by some way down to i -/
def reachP (ops : Array Oper) : Nat → Nat → Nat → Bool
  | 0, _, _ => false
  | f + 1, j, i => match ops[j]? with
    | none => false
    | some o => o.after.any fun e => Region.binds .any e && (e.on == i || (Nat.blt i e.on && reachP ops f e.on i))
theorem reachP_reachB (ops : Array Oper) : ∀ (f j i : Nat), reachP ops f j i = true → reachB ops f j i = true
  | 0, _, _, h => by cases h
  | f + 1, j, i, h => by
    unfold reachP at h
    unfold reachB
    split at h
    · cases h
    · rename_i o ho
      simp only [ho]
      obtain ⟨e, he, hb⟩ := Array.any_eq_true'.1 h
      simp only [Bool.and_eq_true, Bool.or_eq_true] at hb
      refine Array.any_eq_true'.2 ⟨e, he, ?_⟩
      simp only [Bool.and_eq_true, Bool.or_eq_true]
      exact ⟨hb.1, hb.2.imp_right fun h => reachP_reachB ops f _ _ h.2⟩
def brP (ops : Array Oper) (f : Nat) (pre : List (Nat × Bool)) (m : Nat) (b : Bool) (p : List (Nat × Bool)) (idx : List Nat) : Bool :=
  pre.all (fun x => (apB ops x.1 m && (x.2 || b)) || reachP ops f m x.1) && p.all (fun x => x.2 || b) && pairsB (fun i j => apB ops i j || reachP ops f j i) ((pre ++ p).map (·.1)) && pairsB (fun i j => i != j) (m :: ((pre ++ p).map (·.1) ++ idx))
/-- what changes the world, in one order -/
def trP (ops : Array Oper) (f : Nat) : List (Nat × Bool) → Tr → Bool
  | _, .done => true
  | pre, .one m b p t => brP ops f pre m b p (trIdx t) && (p.map (·.1) ++ trIdx t).all (fun z => reachP ops f z m) && trP ops f (pre ++ p) t
  | _, .two _ _ _ _ _ _ _ _ => false
def calmP (ops : Array Oper) (f : Nat) (pre : List (Nat × Bool)) (t : Tr) : Bool :=
  Region.noSelect ops && acB ops && (List.range ops.size).all (fun j => (pre.map (·.1) ++ trIdx t).contains j) && (pre.map (·.1) ++ trIdx t).all (fun j => decide (j < ops.size)) &&
  pairsB (fun i j => i != j) (pre.map (·.1) ++ trIdx t) && pairsB (fun i j => apB ops i j || reachP ops f j i) (pre.map (·.1)) && trP ops f pre t
theorem pairsB_mono {R R' : Nat → Nat → Bool} (hR : ∀ i j, R i j = true → R' i j = true) : ∀ {l : List Nat}, pairsB R l = true → pairsB R' l = true
  | [], _ => rfl
  | x :: l, h => by
    simp only [pairsB, Bool.and_eq_true, List.all_eq_true] at h ⊢
    exact ⟨fun y hy => hR _ _ (h.1 y hy), pairsB_mono hR h.2⟩
theorem brP_brB {ops : Array Oper} {f : Nat} {pre : List (Nat × Bool)} {m : Nat} {b : Bool} {p : List (Nat × Bool)} {idx : List Nat} (h : brP ops f pre m b p idx = true) : brB ops f pre m b p idx = true := by
  unfold brP at h
  unfold brB
  rw [Bool.and_eq_true, Bool.and_eq_true, Bool.and_eq_true] at h ⊢
  obtain ⟨⟨⟨h1, h2⟩, h3⟩, h4⟩ := h
  refine ⟨⟨⟨?_, h2⟩, pairsB_mono (fun i j hij => ?_) h3⟩, h4⟩
  · rw [List.all_eq_true] at h1 ⊢
    intro x hx
    have := h1 x hx
    rw [Bool.or_eq_true] at this ⊢
    exact this.imp_right (reachP_reachB _ _ _ _)
  · rw [Bool.or_eq_true] at hij ⊢
    exact hij.imp_right (reachP_reachB _ _ _ _)
theorem trP_trB {ops : Array Oper} {f : Nat} : ∀ {t : Tr} {pre : List (Nat × Bool)}, trP ops f pre t = true → trB ops f pre t = true
  | .done, _, _ => rfl
  | .one m b p t, pre, h => by
    rw [trP, Bool.and_eq_true, Bool.and_eq_true] at h
    rw [trB, Bool.and_eq_true, Bool.and_eq_true]
    refine ⟨⟨brP_brB h.1.1, ?_⟩, trP_trB h.2⟩
    have h2 := h.1.2
    rw [List.all_eq_true] at h2 ⊢
    exact fun z hz => reachP_reachB _ _ _ _ (h2 z hz)
  | .two .., _, h => by cases h
theorem calmP_calmE {ops : Array Oper} {f : Nat} {pre : List (Nat × Bool)} {t : Tr} (h : calmP ops f pre t = true) : calmE ops f pre t = true := by
  unfold calmP at h
  unfold calmE
  rw [Bool.and_eq_true, Bool.and_eq_true] at h ⊢
  obtain ⟨⟨h1, h2⟩, h3⟩ := h
  refine ⟨⟨h1, pairsB_mono (fun i j hij => ?_) h2⟩, trP_trB h3⟩
  rw [Bool.or_eq_true] at hij ⊢
  exact hij.imp_right (reachP_reachB _ _ _ _)
section
variable {P : Program} {ops : Array Oper} {Q : Exit → Act → World → Prop}
theorem wp_region_calmP {rid : Nat} {a : Act} {w : World} (f : Nat) (C : World → Prop) (pre : List (Nat × Bool)) (t : Tr) (hm : P.follows .mixedOrders = true) (hB : calmP ops f pre t = true) (hC : C w.drew)
    (h : wpPre P ops C pre (fun a => wpTr P ops Q C t a w.drew) a) : (Code.region rid ops true).wp P Q a w :=
  wp_region_calmE f C pre t hm (calmP_calmE hB) hC h
end
end Go.Proofs.YtgnamngnmbaeeaaDoor
