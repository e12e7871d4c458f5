import Derived.Test.YthahomdgpcjhcaaRankAll
import Derived.Test.YthahomdgpcjhcaaFlatAll
namespace Go.Proofs.Ythahomdgpcjhcaa
open Go.RowKit
set_option maxRecDepth 8000

def PartsPost (w : World) (t : VT) (e : Ending) (w' : World) : Prop :=
  ∃ g c, e = .returned (.slice (some ⟨g, 0, none⟩) (flatP (cleanT t)).length c) ∧ w'.ownsRow 0 93 4 (.slice (some ⟨g, 0, none⟩) (flatP (cleanT t)).length c) (flatP (cleanT t)).length (ptCells (flatP (cleanT t))) ∧ Below w.heap.size w w'
theorem flatP_pos (t : VT) : 0 < (flatP t).length := by cases t <;> simp [flatP]
theorem own_some {w : World} {base n : Nat} {e : TypeId} {size : Nat} {v : Value} {xs : List Value} (h : w.ownsRow base e size v n xs) (hn : 0 < n) : ∃ g c, v = .slice (some ⟨g, 0, none⟩) n c := by
  obtain ⟨_, ⟨hv, h0⟩ | ⟨g, cap, cur, hv, _⟩⟩ := h
  · omega
  · exact ⟨g, cap, hv⟩

set_option maxHeartbeats 1000000 in
theorem parts_any (t : VT) (w : World) (S : Nat → Prop) (hin : VT.In w S t) :
    Calls Try.prog 46 #[t.val] w fun e w' => PartsPost w t e w' := by
  have HC : Hid (∀ W, Below w.heap.size w W → Calls Try.prog 38 #[t.val, .int .i64 ((0 : Nat) : Int), .slice none 0 0] W fun r w' => FlatPost 0 W (.slice none 0 0) (chk t 0 0).1 (flatP t) r w') :=
    fun W hW => flat_any t W S 0 (.slice none 0 0) [] 0 (hin.below hW) (fun b _ h => by cases h) (World.ownsRow_nil _ _ _ _) (Nat.zero_le _) (by simp) (by omega)
  obtain ⟨k, i, s, n, p, c, f, ht⟩ := hin.mk_
  clear hin
  unfold PartsPost cleanT
  by_cases h : (chk t 0 0).1 = 0
  · rw [if_pos h]
    rw [h] at HC
    have HP := flatP_pos t
    generalize flatP t = L at *
    simp only [VT.val, ht, VT.kind_mk, VT.int_mk, VT.text_mk, VT.p_mk, VT.n_mk, VT.c_mk] at HC ⊢
    go_enter Try.func46, Try.ntmps46
    go_wp2_with fail
    refine (HC.out _ ?_).mono ?_
    · exact (Below.refl _ _).alloc (Nat.le_refl _) _
    intro e w1 hP
    obtain ⟨v', rfl, hL, ho⟩ := hP
    have hO := ho rfl
    obtain ⟨g, cp, hv⟩ := own_some hO HP
    have hb1 : Below w.heap.size w w1 := ((Below.refl w.heap.size w).alloc (Nat.le_refl _) _).trans ((hL.but.below (Nat.le_refl _) (fun k _ e => by cases e)).mono (by simp))
    subst hv
    have HO : Hid (w1.ownsRow 0 93 4 (.slice (some ⟨g, 0, none⟩) L.length cp) L.length (ptCells L)) := hO
    clear hL ho hO HC
    go_wp2
    go_ret
    exact ⟨g, cp, rfl, HO.out, hb1⟩
  · rw [if_neg h]
    have h' : ¬ (((chk t 0 0).1 : Int) = 0) := by omega
    generalize (chk t 0 0).1 = r at *
    generalize flatP t = L at *
    simp only [VT.val, ht, VT.kind_mk, VT.int_mk, VT.text_mk, VT.p_mk, VT.n_mk, VT.c_mk] at HC ⊢
    go_enter Try.func46, Try.ntmps46
    go_wp2_with fail
    refine (HC.out _ ?_).mono ?_
    · exact (Below.refl _ _).alloc (Nat.le_refl _) _
    intro e w1 hP
    obtain ⟨v', rfl, hL, ho⟩ := hP
    have hb1 : Below w.heap.size w w1 := ((Below.refl w.heap.size w).alloc (Nat.le_refl _) _).trans ((hL.but.below (Nat.le_refl _) (fun k _ e => by cases e)).mono (by simp))
    clear hL ho HC
    go_wp2
    go_ret
    refine ⟨w1.heap.size, 1, rfl, ?_, hb1.alloc hb1.size _⟩
    refine ⟨rfl, .inr ⟨w1.heap.size, 1, _, rfl, Nat.zero_le _, Box.new w1 _ _, Nat.le_refl _, by unfold maxLen; omega, rfl, rfl⟩⟩
end Go.Proofs.Ythahomdgpcjhcaa
