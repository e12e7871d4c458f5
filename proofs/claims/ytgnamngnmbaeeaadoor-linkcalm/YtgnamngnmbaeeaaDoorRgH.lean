import Derived.Test.YtgnamngnmbaeeaaDoorPack35
import Derived.Test.YtgnamngnmbaeeaaDoorPack9
namespace Go.Proofs.YtgnamngnmbaeeaaDoor
open Go.RowKit
set_option maxRecDepth 8000
def brPG (ops : Array Oper) (f : Nat) (pre : List (Nat × Bool)) (m : Nat) (b : Bool) (p : List (Nat × Bool)) (idx : List Nat) : Bool :=
  pre.all (fun x => (apB ops x.1 m && (x.2 || b)) || reachP ops f m x.1) && pairsB (fun i j => apB ops i j || reachP ops f j i) ((pre ++ p).map (·.1)) && pairsB (fun i j => i != j) (m :: ((pre ++ p).map (·.1) ++ idx))
/-- what changes the world, in one order -/
def trPG (ops : Array Oper) (f : Nat) : List (Nat × Bool) → Tr → Bool
  | _, .done => true
  | pre, .one m b p t => brPG ops f pre m b p (trIdx t) && (p.map (·.1) ++ trIdx t).all (fun z => reachP ops f z m) && trPG ops f (pre ++ p) t
  | _, .two _ _ _ _ _ _ _ _ => false
def calmPG (ops : Array Oper) (f : Nat) (pre : List (Nat × Bool)) (t : Tr) : Bool :=
  Region.noSelect ops && acB ops && (List.range ops.size).all (fun j => (pre.map (·.1) ++ trIdx t).contains j) && (pre.map (·.1) ++ trIdx t).all (fun j => decide (j < ops.size)) &&
  pairsB (fun i j => i != j) (pre.map (·.1) ++ trIdx t) && pairsB (fun i j => apB ops i j || reachP ops f j i) (pre.map (·.1)) && trPG ops f pre t
theorem brPG_brG {ops : Array Oper} {f : Nat} {pre : List (Nat × Bool)} {m : Nat} {b : Bool} {p : List (Nat × Bool)} {idx : List Nat} (h : brPG ops f pre m b p idx = true) : brG ops f pre m b p idx = true := by
  unfold brPG at h
  unfold brG
  rw [Bool.and_eq_true, Bool.and_eq_true] at h ⊢
  obtain ⟨⟨h1, h3⟩, h4⟩ := h
  refine ⟨⟨?_, pairsB_mono (fun i j hij => ?_) h3⟩, h4⟩
  · rw [List.all_eq_true] at h1 ⊢
    intro x hx
    have := h1 x hx
    rw [Bool.or_eq_true] at this ⊢
    exact this.imp_right (reachP_reachB _ _ _ _)
  · rw [Bool.or_eq_true] at hij ⊢
    exact hij.imp_right (reachP_reachB _ _ _ _)
theorem trPG_trG {ops : Array Oper} {f : Nat} : ∀ {t : Tr} {pre : List (Nat × Bool)}, trPG ops f pre t = true → trG ops f pre t = true
  | .done, _, _ => rfl
  | .one m b p t, pre, h => by
    rw [trPG, Bool.and_eq_true, Bool.and_eq_true] at h
    rw [trG, Bool.and_eq_true, Bool.and_eq_true]
    refine ⟨⟨brPG_brG h.1.1, ?_⟩, trPG_trG h.2⟩
    have h2 := h.1.2
    rw [List.all_eq_true] at h2 ⊢
    exact fun z hz => reachP_reachB _ _ _ _ (h2 z hz)
  | .two .., _, h => by cases h
theorem calmPG_calmG {ops : Array Oper} {f : Nat} {pre : List (Nat × Bool)} {t : Tr} (h : calmPG ops f pre t = true) : calmG ops f pre t = true := by
  unfold calmPG at h
  unfold calmG
  rw [Bool.and_eq_true, Bool.and_eq_true] at h ⊢
  obtain ⟨⟨h1, h2⟩, h3⟩ := h
  refine ⟨⟨h1, pairsB_mono (fun i j hij => ?_) h2⟩, trPG_trG h3⟩
  rw [Bool.or_eq_true] at hij ⊢
  exact hij.imp_right (reachP_reachB _ _ _ _)
section
variable {P : Program} {ops : Array Oper} {Q : Exit → Act → World → Prop}
theorem wp_region_calmPG {rid : Nat} {a : Act} {w : World} (f : Nat) (C : World → Prop) (pre : List (Nat × Bool)) (t : Tr) (hm : P.follows .mixedOrders = true) (hB : calmPG ops f pre t = true) (hC : C w.drew)
    (h : wpPre P ops C pre (fun a => wpTg P ops Q t C a w.drew) a) : (Code.region rid ops true).wp P Q a w :=
  wp_region_calmG f C pre t hm (calmPG_calmG hB) hC h
end
end Go.Proofs.YtgnamngnmbaeeaaDoor
