import Derived.Test.YtjkfihngkfphfaaDoorEaC
import Derived.Laws.BytesString
namespace Go.Proofs.YtjkfihngkfphfaaDoor
open Go.RowKit
set_option maxRecDepth 8000
theorem bat_pos {s : ByteArray} (h : Nm s) {i : Nat} (hi : i < s.size) : 0 < bat s i := by
  unfold bat
  rw [dif_pos hi]
  have := okB_pos (h.ok i hi)
  omega
theorem bat_end {s : ByteArray} {i : Nat} (hi : s.size ≤ i) : bat s i = 0 := by
  unfold bat
  rw [dif_neg (by omega)]
theorem lab_cell {w : World} {q : Nat} {s : ByteArray} (h : Box w q (labC s).toArray 50) (i : Nat) (hi : i < 12) : w.cell? ⟨q, i, none⟩ = some (.int .u8 (bat s i)) := by
  rw [h.cell]
  match i, hi with
  | 0, _ => rfl
  | 1, _ => rfl
  | 2, _ => rfl
  | 3, _ => rfl
  | 4, _ => rfl
  | 5, _ => rfl
  | 6, _ => rfl
  | 7, _ => rfl
  | 8, _ => rfl
  | 9, _ => rfl
  | 10, _ => rfl
  | 11, _ => rfl
set_option maxHeartbeats 2000000 in
theorem trimR_any (w : World) (q : Nat) (s : ByteArray) (hs : Nm s) (h : Box w q (labC s).toArray 50) :
    Calls Tryd.prog 33 #[.slice (some ⟨q, 0, none⟩) 12 12, .int .u8 0] w fun e w' => e = .returned (.slice (some ⟨q, 0, none⟩) s.size 12) ∧ w' = w := by
  have hp := hs.pos
  have hle := hs.le
  have HN := hid hs
  have HX := hid h
  clear hs h
  go_enter Tryd.func33, Tryd.ntmps33
  go_wp2_with fail
  go_loopw [0] (fun x wr => ∃ m : Nat, s.size ≤ m + 1 ∧ m < 12 ∧ x = .slice (some ⟨q, 0, none⟩) (m + 1) 12 ∧ wr = w) (fun x _ => match x with | .slice _ n _ => n | _ => 0)
  case atStart => exact ⟨11, by omega, by omega, rfl, rfl⟩
  case round =>
    obtain ⟨m, h1, h2, rfl, rfl⟩ := hrel
    have c0 := lab_cell HX.out m h2
    by_cases hm : s.size = m + 1
    · have hb := bat_pos HN.out (show m < s.size by omega)
      have hb' : (bat s m == 0) = false := by simp; omega
      clear hb
      go_wp2
      exact bodyPost_ret (v := .slice (some ⟨q, 0, none⟩) (m + 1) 12) (by simp [results, Tryd.results33, go_sem]) rfl ⟨by rw [hm], rfl⟩
    · rw [bat_end (show s.size ≤ m by omega)] at c0
      obtain ⟨k, rfl⟩ : ∃ k, m = k + 1 := ⟨m - 1, by omega⟩
      go_wp2
      go_roundw
      case rel => exact ⟨k, by omega, by omega, by first | rfl | simp, by first | rfl | trivial⟩
      case measure => simp
set_option maxHeartbeats 2000000 in
theorem trim_any (w : World) (q : Nat) (s : ByteArray) (hs : Nm s) (h : Box w q (labC s).toArray 50) :
    Calls Tryd.prog 27 #[.slice (some ⟨q, 0, none⟩) 12 12, .string ⟨#[0]⟩] w fun e w' => e = .returned (.slice (some ⟨q, 0, none⟩) s.size 12) ∧ w' = w := by
  have HC := hid (trimR_any w q s hs h)
  clear hs h
  go_enter Tryd.func27, Tryd.ntmps27
  go_wp2_with fail
  refine HC.out.mono ?_
  rintro e w' ⟨rfl, rfl⟩
  go_wp2
  exact bodyPost_ret (v := .slice (some ⟨q, 0, none⟩) s.size 12) (by simp [results, Tryd.results27, go_sem]) rfl ⟨rfl, rfl⟩
def strOf (zs : List Int) : ByteArray := zs.foldl (fun r n => r.push (UInt8.ofNat n.toNat)) ByteArray.empty
theorem strOf_data (zs : List Int) : (strOf zs).data.toList = zs.map fun z => UInt8.ofNat z.toNat := by
  have key : ∀ (zs : List Int) (r : ByteArray), (zs.foldl (fun r n => r.push (UInt8.ofNat n.toNat)) r).data.toList = r.data.toList ++ zs.map fun z => UInt8.ofNat z.toNat := by
    intro zs
    induction zs with
    | nil => intro r; simp
    | cons z zs ih => intro r; rw [List.foldl_cons, ih]; simp [ByteArray.push]
  rw [strOf, key]; rfl
theorem str_bat (s : ByteArray) : strOf ((List.range s.size).map (bat s)) = s := by
  apply ByteArray.ext
  apply Array.toList_inj.1
  rw [strOf_data]
  apply List.ext_getElem?
  intro i
  by_cases h : i < s.size
  · have h2 : i < s.data.toList.length := by simpa using h
    rw [List.getElem?_eq_getElem h2]
    simp only [List.map_map, List.getElem?_map, List.getElem?_range h, Option.map_some, Function.comp_apply, bat]
    rw [dif_pos h]
    simp
    rfl
  · rw [List.getElem?_eq_none (by simp; omega), List.getElem?_eq_none (by simp; exact Nat.le_of_not_lt h)]
set_option maxHeartbeats 2000000 in
/-- a label's name -/
theorem name_any (s : ByteArray) (hs : Nm s) (w : World) : Calls Tryd.prog 15 #[labV s] w fun e w' => e = .returned (.string s) ∧ Below w.heap.size w w' := by
  obtain ⟨W, hW⟩ : ∃ V, V = w.alloc (.cells (labC s).toArray 50) := ⟨_, rfl⟩
  have hB : Below w.heap.size w W := by rw [hW]; exact (Below.refl _ _).alloc (Nat.le_refl _) _
  have hX : Box W w.heap.size (labC s).toArray 50 := by rw [hW]; exact Box.new _ _ _
  have HT := hid (trim_any W w.heap.size s hs hX)
  have hcv : (convert 33 9 (.slice (some ⟨w.heap.size, 0, none⟩) s.size 12)).run Tryd.prog W = .ok (.string s) W := by
    rw [run_convert_bytes_string (P := Tryd.prog) W 33 9 5 _ _ _ Tryd.underlying33 Tryd.underlying5 Tryd.underlying9]
    have hl := run_loadCells_list (P := Tryd.prog) (w := W) ⟨w.heap.size, 0, none⟩ (((List.range s.size).map (bat s)).map (Value.int .u8)) (fun j u hu => by
      rw [Go.WideShapes.add_plain]
      by_cases hj : j < s.size
      · simp [List.getElem?_range hj] at hu
        rw [← hu, show 0 + j = j by omega]
        exact lab_cell hX j (by have := hs.le; omega)
      · rw [List.getElem?_eq_none (by simp; omega)] at hu; cases hu)
    simp only [List.length_map, List.length_range] at hl
    have h2 := run_bytesToString W ⟨w.heap.size, 0, none⟩ s.size 12 ((List.range s.size).map (bat s)) hl
    rw [h2]
    show Result.ok (Value.string (strOf ((List.range s.size).map (bat s)))) W = _
    rw [str_bat]
  have HW := hid hW
  have HB := hid hB
  clear hW hB hX
  simp only [labV, labC]
  go_enter Tryd.func15, Tryd.ntmps15
  go_upto_region 1 with fail
  have hw := HW.out
  simp only [labC] at hw
  rw [← hw]
  clear hw
  go_wp2_with fail
  refine HT.out.mono ?_
  rintro e w' ⟨rfl, rfl⟩
  go_wp2
  exact bodyPost_ret (v := .string s) (by simp [results, Tryd.results15, go_sem]) rfl ⟨rfl, HB.out⟩
end Go.Proofs.YtjkfihngkfphfaaDoor
