import Derived.Test.YtdmhemofhmfkoabGreatDoorRTxS
import Derived.Test.YtdmhemofhmfkoabGreatDoorPack44
namespace Go.Proofs.YtdmhemofhmfkoabGreatDoor
open Go.RowKit
set_option maxRecDepth 8000
theorem prB_alikeX : ∀ (t u : VT), VT.Alike t u → prB t = prB u := by
  intro t
  induction t with
  | nil => intro u h; rw [show u = .nil from h]
  | mk k i s n p c f ih =>
    intro u h
    cases u with
    | nil =>
      obtain ⟨h1, _⟩ := h
      simp only [VT.kind] at h1
      subst h1
      simp [prB]
    | mk k' i' s' n' p' c' f' =>
      obtain ⟨h1, h2, h3, h4, h5⟩ := h
      simp only [VT.kind_mk, VT.int_mk, VT.text_mk, VT.n_mk] at h1 h2 h3 h4
      subst h1 h2 h3 h4
      rw [prB_eq, prB_eq]
      have e : ((List.range n').flatMap fun j => (if 0 < j then [44, 32] else []) ++ prB (f j)) = ((List.range n').flatMap fun j => (if 0 < j then [44, 32] else []) ++ prB (f' j)) := by
        rw [List.flatMap_def, List.flatMap_def]
        congr 1
        apply List.map_congr_left
        intro j hj
        rw [ih j _ (h5 j (List.mem_range.1 hj))]
        rfl
      rw [e]
theorem cleanT_alikeX {t u : VT} (h : VT.Alike t u) : VT.Alike (cleanT t) (cleanT u) := by
  unfold cleanT
  rw [← chk_alike t u 0 0 h]
  split
  · exact h
  · exact VT.Alike.refl _
/-- what both readings come to, fault or not -/
def UniPost (w : World) (T : VT) (n e : Nat) (x : Ending) (w' : World) : Prop := ∃ u : VT, x = .returned (.tuple #[u.val, .int .i64 (n : Int), .int .i64 (e : Int)]) ∧ VT.Alike T u ∧ VT.In w' (fun b => w.heap.size ≤ b) u ∧ Below w.heap.size w w'
theorem mkN_in (w : World) (S : Nat → Prop) : VT.In w S mkN := by
  have e : noneS (⟨#[110, 111, 110, 101]⟩ : ByteArray) 0 = .ok (mkN, 4) := by rfl
  exact none_in e
theorem parse_uni (s : ByteArray) : ∃ T n e, ∀ w x w', ParsePost w (parseS s) x w' → UniPost w T n e x w' := by
  cases h : parseS s with
  | error pe =>
    obtain ⟨p, e⟩ := pe
    refine ⟨mkN, p, e, fun w x w' hP => ?_⟩
    obtain ⟨h1, h2⟩ := hP.2 p e rfl
    exact ⟨mkN, h1, VT.Alike.refl _, mkN_in _ _, h2⟩
  | ok va =>
    obtain ⟨v, a⟩ := va
    exact ⟨v, a, 0, fun w x w' hP => hP.1 v a rfl⟩
theorem lead_uni (s : ByteArray) : ∃ T n e, ∀ w x w', LeadPost w (parS s 3 0 0 0) x w' → UniPost w T n e x w' := by
  cases h : parS s 3 0 0 0 with
  | error pe =>
    obtain ⟨p, e⟩ := pe
    refine ⟨mkN, p, e, fun w x w' hP => ?_⟩
    obtain ⟨h1, h2⟩ := hP.2 p e rfl
    exact ⟨mkN, h1, VT.Alike.refl _, mkN_in _ _, h2⟩
  | ok va =>
    obtain ⟨v, a, q⟩ := va
    exact ⟨v, a, 0, fun w x w' hP => hP.1 v a q rfl⟩
end Go.Proofs.YtdmhemofhmfkoabGreatDoor
