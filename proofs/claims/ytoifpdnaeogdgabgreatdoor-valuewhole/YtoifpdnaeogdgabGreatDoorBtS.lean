import Derived.Test.YtoifpdnaeogdgabGreatDoorPack30
import Derived.Test.YtoifpdnaeogdgabGreatDoorPack2
namespace Go.Proofs.YtoifpdnaeogdgabGreatDoor
open Go.RowKit
set_option maxRecDepth 8000
/-- bytes, all of them -/
def BtW (l : List Int) : Prop := ∀ x ∈ l, 0 ≤ x ∧ x < 256
theorem BtW.app {a b : List Int} (ha : BtW a) (hb : BtW b) : BtW (a ++ b) := fun x hx => (List.mem_append.1 hx).elim (ha x) (hb x)
theorem txt_btW (s : ByteArray) : BtW (txtB s) := txt_range s
theorem hexd_btW (d : Nat) (h : d < 16) : 0 ≤ hexd d ∧ hexd d < 256 := by unfold hexd; split <;> omega
theorem hexB_btW (l : List Int) : (∀ x ∈ l, 0 ≤ x ∧ x < 256) → BtW (hexB l) := by
  intro h x hx
  obtain ⟨b, hb, hx⟩ := List.mem_flatMap.1 hx
  have h1 := h b hb
  have e1 := hexd_btW (b.toNat / 16) (by omega)
  have e2 := hexd_btW (b.toNat % 16) (by omega)
  simp only [List.mem_cons, List.not_mem_nil, or_false] at hx
  rcases hx with rfl | rfl | rfl | rfl <;> omega
theorem piece_btW (s : ByteArray) (a : Nat) : BtW (piece s a) := by
  unfold piece
  split
  · rename_i h
    intro x hx
    simp only [List.mem_cons, List.not_mem_nil, or_false] at hx
    omega
  split
  · intro x hx; simp only [List.mem_cons, List.not_mem_nil, or_false] at hx; omega
  split
  · intro x hx; simp only [List.mem_cons, List.not_mem_nil, or_false] at hx; omega
  split
  · exact txt_btW _
  · exact hexB_btW _ fun x hx => txt_range s x (List.mem_of_mem_drop (List.mem_of_mem_take hx))
theorem quoF_btW (s : ByteArray) : ∀ k a, BtW (quoF s k a) := by
  intro k
  induction k with
  | zero => intro a x hx; cases hx
  | succ k ih =>
    intro a
    rw [quoF]
    split
    · exact (piece_btW s a).app (ih _)
    · intro x hx; cases hx
theorem pr_btW : ∀ t : VT, BtW (prB t) := by
  intro t
  have n4 : BtW [110, 111, 110, 101] := by intro x hx; simp only [List.mem_cons, List.not_mem_nil, or_false] at hx; omega
  induction t with
  | nil => exact n4
  | mk k i s n p c f ih =>
    rw [prB_eq]
    split
    · intro x hx
      unfold itoaB at hx
      obtain ⟨b, _, rfl⟩ := List.mem_map.1 hx
      have := b.toNat_lt
      omega
    · split
      · rw [quoB]
        refine BtW.app (BtW.app ?_ (quoF_btW s _ _)) ?_
        all_goals (intro x hx; simp only [List.mem_cons, List.not_mem_nil, or_false] at hx; omega)
      · split
        · refine BtW.app (BtW.app ?_ ?_) ?_
          · intro x hx; simp only [List.mem_cons, List.not_mem_nil, or_false] at hx; omega
          · intro x hx
            obtain ⟨j, _, hx⟩ := List.mem_flatMap.1 hx
            rcases List.mem_append.1 hx with hx | hx
            · split at hx
              · simp only [List.mem_cons, List.not_mem_nil, or_false] at hx; omega
              · cases hx
            · exact ih j x hx
          · intro x hx; simp only [List.mem_cons, List.not_mem_nil, or_false] at hx; omega
        · exact n4
/-- alike values stand together -/
theorem compare_self (l : List UInt8) : Go.Lib.compareBytes l l = 0 := by
  induction l with
  | nil => rfl
  | cons a l ih =>
    unfold Go.Lib.compareBytes
    rw [if_neg (UInt8.lt_irrefl a), if_neg (UInt8.lt_irrefl a)]
    exact ih
theorem ord_alike : ∀ t u : VT, VT.Alike t u → ordV t u = 0 := by
  intro t
  induction t with
  | nil => intro u _; rfl
  | mk k i s n p c f ih =>
    intro u h
    obtain ⟨h1, h2, h3, h4, h5⟩ := h
    rw [ordV_eq, h1, h2, h3, h4]
    have z : ∀ m, m ≤ n → firstN (fun j => ordV (f j) (u.item j)) m = 0 := by
      intro m
      induction m with
      | zero => intro _; rfl
      | succ m ihm => intro hm; rw [firstN_succ (ihm (by omega))]; exact ih m _ (h5 m (by omega))
    have c0 : ∀ x : Int, cmpI x x = 0 := fun x => by unfold cmpI; rw [if_neg (by omega), if_neg (by omega)]
    rw [if_neg (by simp)]
    split
    · exact c0 i
    split
    · exact compare_self _
    · rw [z _ (by omega), if_neg (by simp)]
      exact c0 _
end Go.Proofs.YtoifpdnaeogdgabGreatDoor
