import Derived.Test.YthahomdgpcjhcaaCmpMath
namespace Go.Proofs.Ythahomdgpcjhcaa
open Go.RowKit

theorem ordV_alike : ∀ (a a' b b' : VT), VT.Alike a a' → VT.Alike b b' → Val a → Val a' → Val b → Val b' → ordV a b = ordV a' b' := by
  intro a
  induction a with
  | nil => intro a' b b' _ _ h; exact h.elim
  | mk k i s n p c f ih =>
    intro a' b b' h1 h2 va va' vb vb'
    cases a' with
    | nil => exact va'.elim
    | mk k' i' s' n' p' c' f' =>
    cases b with
    | nil => exact vb.elim
    | mk l j r m q d g =>
    cases b' with
    | nil => exact vb'.elim
    | mk l' j' r' m' q' d' g' =>
      obtain ⟨e1, e2, e3, e4, hf⟩ := h1
      obtain ⟨g1, g2, g3, g4, hg⟩ := h2
      simp only [VT.kind_mk, VT.int_mk, VT.text_mk, VT.n_mk, VT.item_mk] at e1 e2 e3 e4 hf g1 g2 g3 g4 hg
      subst e1 e2 e3 e4 g1 g2 g3 g4
      by_cases hk : k' = l'
      · subst hk
        by_cases k1 : k' = 1
        · subst k1; rw [ordV_ints, ordV_ints]
        by_cases k2 : k' = 2
        · subst k2; rw [ordV_texts, ordV_texts]
        rw [ordV_lists k' _ _ _ _ _ _ _ _ _ _ _ _ k1 k2, ordV_lists k' _ _ _ _ _ _ _ _ _ _ _ _ k1 k2]
        unfold ordL
        rw [firstN_congr (min n' m') fun q hq => ih q (f' q) (g q) (g' q) (hf q (by omega)) (hg q (by omega)) (va.2 q (by omega)) (va'.2 q (by omega)) (vb.2 q (by omega)) (vb'.2 q (by omega))]
      · rw [ordV_kinds k' l' _ _ _ _ _ _ _ _ _ _ _ _ hk, ordV_kinds k' l' _ _ _ _ _ _ _ _ _ _ _ _ hk]
theorem cleanT_alike {t u : VT} (h : VT.Alike t u) : VT.Alike (cleanT t) (cleanT u) := by
  unfold cleanT
  rw [← chk_alike t u 0 0 h]
  split
  · exact h
  · exact VT.Alike.refl _
/-- what the reference says of the copies is what is said of the values -/
theorem ord_copies {x x' u u' : VT} {w : World} {S1 S2 S3 S4 : Nat → Prop} (h1 : VT.In w S1 x) (h2 : VT.In w S2 x') (h3 : VT.In w S3 u) (h4 : VT.In w S4 u') (ha : VT.Alike x u) (hb : VT.Alike x' u') :
    cmp3 (strOf (rankB (cleanT u))).toList (strOf (rankB (cleanT u'))).toList = ordV (cleanT x) (cleanT x') := by
  rw [order_rank (clean_val h3) (clean_val h4)]
  exact (ordV_alike _ _ _ _ (cleanT_alike ha) (cleanT_alike hb) (clean_val h1) (clean_val h3) (clean_val h2) (clean_val h4)).symm
end Go.Proofs.Ythahomdgpcjhcaa
