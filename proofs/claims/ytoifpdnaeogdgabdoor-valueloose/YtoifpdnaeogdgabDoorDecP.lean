import Derived.RegionDies
import Derived.Test.YtoifpdnaeogdgabDoorPack10
import Derived.Test.YtoifpdnaeogdgabDoorPack14
namespace Go.Proofs.YtoifpdnaeogdgabDoor
open Go.RowKit
set_option maxRecDepth 8000

theorem Byts.but {w w' : World} {S X : Nat → Prop} {p : Option Addr} {n c : Nat} {f : Nat → Int} (h : Byts w S p n c f) (hb : But X w w') (hx : ∀ b, S b → ¬ X b) : Byts w' S p n c f := h.kept hb.size fun b hS hl => hb.block b hl (hx b hS)
theorem conv_at {w : World} {ad : Addr} {c : Nat} {zs : List Int} (h : ∀ j u, (zs.map (Value.int .u8))[j]? = some u → w.cell? (ad.add j) = some u) : (convert 56 9 (.slice (some ad) zs.length c)).run Tryd.prog w = .ok (.string (strOf zs)) w := by
  rw [run_convert_bytes_string (P := Tryd.prog) w 56 9 5 _ _ _ Tryd.underlying56 Tryd.underlying5 Tryd.underlying9]
  have hl := run_loadCells_list (P := Tryd.prog) (w := w) ad (zs.map (Value.int .u8)) h
  rw [List.length_map] at hl
  exact run_bytesToString w ad zs.length c zs hl
theorem small_in (w : World) (S : Nat → Prop) (k i : Int) (s : ByteArray) (h1 : 0 ≤ k) (h2 : k ≤ 3) (h3 : -9223372036854775808 ≤ i) (h4 : i ≤ 9223372036854775807) (h5 : s.size ≤ 140737488355328) : VT.In w S (.mk k i s 0 none 0 (fun _ => .nil)) :=
  ⟨⟨by show _ ≤ k; omega, by show k ≤ _; omega, h3, h4, h5, Nat.le_refl 0, by show 0 ≤ 140737488355328; omega, Nat.zero_le _, fun _ => ⟨rfl, rfl⟩⟩, fun h => absurd h (by omega), fun j hj => absurd hj (by omega)⟩
theorem unfoldI_fit {u : Nat} (hu : u < 2 ^ 64) : -9223372036854775808 ≤ unfoldI u ∧ unfoldI u ≤ 9223372036854775807 := by unfold unfoldI; split <;> omega
theorem setV_box {w : World} {b : Nat} {a0 a1 a2 a3 : Value} {e : TypeId} (h : Box w b #[a0, a1, a2, a3] e) (x0 x1 x2 x3 : Value) : Box ((((w.setCell ⟨b, 0, none⟩ x0).setCell ⟨b, 1, none⟩ x1).setCell ⟨b, 2, none⟩ x2).setCell ⟨b, 3, none⟩ x3) b #[x0, x1, x2, x3] e := by
  have h1 : Box _ b #[x0, a1, a2, a3] e := h.set 0 x0
  have h2 : Box _ b #[x0, x1, a2, a3] e := h1.set 1 x1
  have h3 : Box _ b #[x0, x1, x2, a3] e := h2.set 2 x2
  have h4 : Box _ b #[x0, x1, x2, x3] e := h3.set 3 x3
  exact h4
theorem strOf_size (zs : List Int) : (strOf zs).size = zs.length := by
  have h : ∀ (l : List Int) (r : ByteArray), (l.foldl (fun r n => r.push (UInt8.ofNat n.toNat)) r).size = r.size + l.length := by
    intro l
    induction l with
    | nil => intro r; rfl
    | cons a l ih => intro r; rw [List.foldl_cons, ih, ByteArray.size_push, List.length_cons]; omega
  rw [strOf, h]
  simp
theorem conv_none (c : Nat) (w : World) : (convert 56 9 (.slice none 0 c)).run Tryd.prog w = .ok (.string (strOf [])) w := by
  rw [run_convert_bytes_string (P := Tryd.prog) w 56 9 5 _ _ _ Tryd.underlying56 Tryd.underlying5 Tryd.underlying9]
  rfl
end Go.Proofs.YtoifpdnaeogdgabDoor
