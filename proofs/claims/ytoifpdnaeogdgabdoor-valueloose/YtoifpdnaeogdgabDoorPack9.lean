import Derived.Test.YtoifpdnaeogdgabDoorPack8
import Derived.Test.YtoifpdnaeogdgabDoorPack0
import Derived.Test.YtoifpdnaeogdgabDoorPack2
namespace Go.Proofs.YtoifpdnaeogdgabDoor
open Go.RowKit
set_option maxRecDepth 8000

/-- the number whose groups begin at a: the number, and where it ends; none: it is none -/
def grpS (f : Nat → Int) (n : Nat) : Nat → Nat → Nat → Nat → Option (Nat × Nat)
  | 0, _, _, _ => none
  | k + 1, a, i, u => if n ≤ a then none else if (0 < i ∧ (f a).toNat = 0) ∨ (i = 9 ∧ 1 < (f a).toNat) then none
    else if (f a).toNat < 128 then some (u ||| ((f a).toNat % 128) * 2 ^ (7 * i), a + 1) else grpS f n k (a + 1) (i + 1) (u ||| ((f a).toNat % 128) * 2 ^ (7 * i))
theorem andnot128 (c : Nat) (h : c < 256) : bits BinOp.andNot IntKind.u8 (c : Int) 128 = ((c % 128 : Nat) : Int) := by
  have h2 : ∀ v : Nat, v < 256 → bits BinOp.andNot IntKind.u8 (v : Int) 128 = ((v % 128 : Nat) : Int) := by decide
  exact h2 c h
theorem grp_fits {c i : Nat} (hi : i ≤ 9) (h : i = 9 → c ≤ 1) : c % 128 * 2 ^ (7 * i) < 2 ^ 64 := by
  rcases (by omega : i = 9 ∨ i ≤ 8) with rfl | h8
  · have := h rfl
    have h1 : c % 128 ≤ 1 := by omega
    calc c % 128 * 2 ^ (7 * 9) ≤ 1 * 2 ^ 63 := Nat.mul_le_mul h1 (by decide)
      _ < 2 ^ 64 := by decide
  · have h1 : c % 128 < 128 := by omega
    calc c % 128 * 2 ^ (7 * i) ≤ 127 * 2 ^ (7 * i) := Nat.mul_le_mul (by omega) (Nat.le_refl _)
      _ ≤ 127 * 2 ^ 56 := Nat.mul_le_mul (Nat.le_refl _) (Nat.pow_le_pow_right (by omega) (by omega))
      _ < 2 ^ 64 := by decide

end Go.Proofs.YtoifpdnaeogdgabDoor

namespace Go.Proofs.YtoifpdnaeogdgabDoor
open Go.RowKit
set_option maxRecDepth 8000

/-- the int of a folded number -/
def unfoldI (u : Nat) : Int := if u % 2 = 1 then -1 - ((u / 2 : Nat) : Int) else ((u / 2 : Nat) : Int)
theorem and_one64 (u : Nat) (hu : u < 2 ^ 64) : bits BinOp.and IntKind.u64 (u : Int) 1 = ((u % 2 : Nat) : Int) := by
  have h := bits_and_u64_nat u 1 (by omega) (by omega)
  rw [Nat.and_one_is_mod] at h
  exact h
theorem compl_half (u : Nat) (hu : u < 2 ^ 64) : bits BinOp.xor IntKind.u64 IntKind.u64.max ((u / 2 : Nat) : Int) = ((18446744073709551616 - (u / 2 + 1) : Nat) : Int) := by
  have hm : IntKind.u64.max = ((18446744073709551615 : Nat) : Int) := by decide
  have h2 := bits_xor_u64_nat 18446744073709551615 (u / 2) (by omega) (by omega)
  have h3 : 18446744073709551615 ^^^ (u / 2) = 18446744073709551616 - (u / 2 + 1) := compl64 (u / 2) (by omega)
  rw [h3] at h2
  rw [hm, h2]

end Go.Proofs.YtoifpdnaeogdgabDoor

namespace Go.Proofs.YtoifpdnaeogdgabDoor
open Go.RowKit
set_option maxRecDepth 8000
theorem clean_len {t : VT} : (flatP (cleanT t)).length ≤ 12 := by
  unfold cleanT
  split
  · rename_i h
    have h1 := chk_len t 0 0 h
    have h2 := (chk_le t 0 0 (by omega)).2 h
    omega
  · simp [zeroT, flatP]
/-- bytes as a text -/
def strOf (zs : List Int) : ByteArray := zs.foldl (fun r n => r.push (UInt8.ofNat n.toNat)) ByteArray.empty
theorem conv_any {w : World} {base b c : Nat} {zs : List Int} (h : OwnBy base w (.slice (some ⟨b, 0, none⟩) zs.length c) zs) : (convert 56 9 (.slice (some ⟨b, 0, none⟩) zs.length c)).run Tryd.prog w = .ok (.string (strOf zs)) w := by
  rw [run_convert_bytes_string (P := Tryd.prog) w 56 9 5 _ _ _ Tryd.underlying56 Tryd.underlying5 Tryd.underlying9]
  have hl := run_loadCells_list (P := Tryd.prog) (w := w) ⟨b, 0, none⟩ (zs.map (Value.int .u8)) (World.ownsRow.cells h rfl)
  rw [List.length_map] at hl
  exact run_bytesToString w ⟨b, 0, none⟩ zs.length c zs hl
end Go.Proofs.YtoifpdnaeogdgabDoor
