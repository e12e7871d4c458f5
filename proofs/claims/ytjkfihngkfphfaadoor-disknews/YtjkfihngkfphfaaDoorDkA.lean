import Derived.Test.YtjkfihngkfphfaaDoorTree
import Derived.WideKeyMaps
import Derived.DeepKeys4
namespace Go.Proofs.YtjkfihngkfphfaaDoor
open Go.RowKit
set_option maxRecDepth 8000
/-- the i-th byte of a label whose name is s -/
def bat (s : ByteArray) (i : Nat) : Int := if h : i < s.size then (s[i].toNat : Int) else 0
theorem bat_bd (s : ByteArray) (i : Nat) : 0 ≤ bat s i ∧ bat s i ≤ 255 := by
  unfold bat
  split
  · have := (s[i]).toNat_lt; omega
  · omega
def labC (s : ByteArray) : List Value := [.int .u8 (bat s 0), .int .u8 (bat s 1), .int .u8 (bat s 2), .int .u8 (bat s 3), .int .u8 (bat s 4), .int .u8 (bat s 5), .int .u8 (bat s 6), .int .u8 (bat s 7), .int .u8 (bat s 8), .int .u8 (bat s 9), .int .u8 (bat s 10), .int .u8 (bat s 11)]
def labV (s : ByteArray) : Value := .agg (labC s).toArray
theorem laidOut : laidOutB Tryd.prog = true := by kernel_rfl
theorem labRow : 50 < Tryd.prog.types.size := of_decide_eq_true (by kernel_rfl)
theorem labWide : (match Tryd.prog.underlying 50 with | some (.array _ _) | some (.struct _) => true | _ => false) = true := by kernel_rfl
theorem labLaw : WideMaps.KeyLaw Tryd.prog 50 := deep_law_laid laidOut (m := 2) (by omega) labRow (by kernel_rfl) labWide
theorem lab_key (s : ByteArray) : ∃ l, keyOf Tryd.prog 50 (labV s) = some l := by
  have hT : Tryd.prog.keyType 50 = true := by kernel_rfl
  have hn : ∃ d, Tryd.prog.types.size + 1 = d + 2 := ⟨Tryd.prog.types.size - 1, by have := labRow; omega⟩
  obtain ⟨d, hd⟩ := hn
  have c1 : Tryd.prog.cellsOf 50 = 12 := by kernel_rfl
  have c2 : Tryd.prog.cellsOf 5 = 1 := by kernel_rfl
  have hw : ∀ i, (Lit.int .u8 (bat s i)).wf = true := fun i => by
    have := bat_bd s i
    have h1 : IntKind.u8.min = 0 := rfl
    have h2 : IntKind.u8.max = 255 := rfl
    simp only [Lit.wf, h1, h2, Bool.and_eq_true, decide_eq_true_eq]
    exact this
  unfold keyOf
  rw [Tryd.underlying50]
  simp only [hT, Bool.true_and, hd]
  have hr : List.range 12 = [0, 1, 2, 3, 4, 5, 6, 7, 8, 9, 10, 11] := rfl
  simp [labV, labC, Value.formed, Program.keyLits, Tryd.underlying50, Tryd.underlying5, c1, c2, hw, Value.cells, hr]
theorem lab_inj {s t : ByteArray} (h : labV s = labV t) (i : Nat) (hi : i < 12) : bat s i = bat t i := by
  simp only [labV, Value.agg.injEq] at h
  have h2 := congrArg Array.toList h
  simp only [labC, List.cons.injEq, Value.int.injEq, true_and, and_true] at h2
  match i, hi with
  | 0, _ => exact h2.1
  | 1, _ => exact h2.2.1
  | 2, _ => exact h2.2.2.1
  | 3, _ => exact h2.2.2.2.1
  | 4, _ => exact h2.2.2.2.2.1
  | 5, _ => exact h2.2.2.2.2.2.1
  | 6, _ => exact h2.2.2.2.2.2.2.1
  | 7, _ => exact h2.2.2.2.2.2.2.2.1
  | 8, _ => exact h2.2.2.2.2.2.2.2.2.1
  | 9, _ => exact h2.2.2.2.2.2.2.2.2.2.1
  | 10, _ => exact h2.2.2.2.2.2.2.2.2.2.2.1
  | 11, _ => exact h2.2.2.2.2.2.2.2.2.2.2.2
/-- what a byte of a file's name may be -/
def okB (x : Nat) : Bool := (97 ≤ x && x ≤ 122) || (48 ≤ x && x ≤ 57) || x == 45
/-- a file's name -/
structure Nm (s : ByteArray) : Prop where
  pos : 0 < s.size
  le : s.size ≤ 12
  ok : ∀ i (h : i < s.size), okB (s[i]).toNat = true
theorem okB_pos {x : Nat} (h : okB x = true) : 0 < x := by
  simp [okB] at h
  omega
theorem lab_eq {s t : ByteArray} (hs : Nm s) (ht : Nm t) (h : labV s = labV t) : s = t := by
  have hb := lab_inj h
  have hsz : s.size = t.size := by
    rcases Nat.lt_trichotomy s.size t.size with h1 | h1 | h1
    · have h2 := hb s.size (by have := ht.le; omega)
      unfold bat at h2
      rw [dif_neg (by omega), dif_pos h1] at h2
      have := okB_pos (ht.ok _ h1)
      omega
    · exact h1
    · have h2 := hb t.size (by have := hs.le; omega)
      unfold bat at h2
      rw [dif_pos h1, dif_neg (by omega)] at h2
      have := okB_pos (hs.ok _ h1)
      omega
  apply ByteArray.ext
  apply Array.ext
  · exact hsz
  · intro i h1 h2
    have h3 := hb i (by have := hs.le; have : s.size = s.data.size := rfl; omega)
    unfold bat at h3
    rw [dif_pos (show i < s.size from h1), dif_pos (show i < t.size from h2)] at h3
    have h4 : (s[i]).toNat = (t[i]).toNat := by omega
    exact UInt8.toNat_inj.1 h4
end Go.Proofs.YtjkfihngkfphfaaDoor
