import Derived.Test.YtkfcilandmhomaaDoorPack1
import Derived.Test.YtkfcilandmhomaaDoorEaB
import Derived.Lib.LazyBuf
import Derived.RangeFuncSeq
import Derived.Laws.BytesString
namespace Go.Proofs.YtkfcilandmhomaaDoor
open Go.RowKit
set_option maxRecDepth 8000
theorem kindB : ∃ i, Kind 30 5 i (.int .u8 0) 1 1 := by
  obtain ⟨i0, hi, hz0, hz1, hz2⟩ := info_parts (show (Tryd.prog.info? 5).map (fun i => (i.zero, i.size, i.bytes)) = some (some (.int .u8 0), 1, 1) by kernel_rfl)
  exact ⟨i0, Tryd.underlying30, hi, hz0, hz1, hz2, rfl, by decide⟩
theorem wrap_u64 (x : Int) : IntKind.u64.wrap x = x % 18446744073709551616 := by
  simp [IntKind.wrap, IntKind.bits, IntKind.signed]
/-- a row of one byte -/
theorem row_one (w : World) (x : Int) : (w.alloc (.cells #[.int .u8 x] 5)).ownsRow w.heap.size 5 1 (.slice (some ⟨w.heap.size, 0, none⟩) 1 1) 1 [.int .u8 x] := by
  have h := World.ownsRow_made (base := w.heap.size) (e := 5) (size := 1) w #[.int .u8 x] 1 (Nat.le_refl _) (by unfold maxLen; omega) (by simp)
  refine ⟨by simp, .inr ⟨w.heap.size, 1, #[.int .u8 x], rfl, Nat.le_refl _, ?_, Nat.le_refl _, by unfold maxLen; omega, by simp, by simp⟩⟩
  exact Box.new w _ 5

/-- bytes in a row of the call's own -/
def OwnBy (base : Nat) (w : World) (v : Value) (zs : List Int) : Prop := w.ownsRow base 5 1 v zs.length (zs.map (Value.int .u8))
theorem OwnBy.app {base : Nat} {w w' : World} {v v' : Value} {zs ys : List Int} (_h : OwnBy base w v zs) (ho : w'.ownsRow base 5 1 v' (zs.length + ys.length) (zs.map (Value.int .u8) ++ ys.map (Value.int .u8))) : OwnBy base w' v' (zs ++ ys) := by
  unfold OwnBy
  rw [List.length_append, List.map_append]
  exact ho
theorem OwnBy.below {base : Nat} {w w' : World} {v : Value} {zs : List Int} (h : OwnBy base w v zs) (hb : Below w.heap.size w w') : OwnBy base w' v zs := ownsRow_keep h fun g _ hl => hb.block g hl
theorem OwnBy.slice {base : Nat} {w : World} {v : Value} {zs : List Int} (h : OwnBy base w v zs) (hz : 0 < zs.length) : ∃ b c, v = .slice (some ⟨b, 0, none⟩) zs.length c ∧ base ≤ b ∧ b < w.heap.size ∧ ∀ j u, (zs.map (Value.int .u8))[j]? = some u → w.cell? ((⟨b, 0, none⟩ : Addr).add j) = some u := by
  have hlt := World.ownsRow.lt h
  have hc := @World.ownsRow.cells _ _ _ _ _ _ _ h
  obtain ⟨_, ⟨hv, h0⟩ | ⟨b, cap, cur, hv, hbg, hh, _⟩⟩ := id h
  · omega
  · exact ⟨b, cap, hv, hbg, (hlt b (by rw [hv]; rfl)).2, hc (by rw [hv]; rfl)⟩
end Go.Proofs.YtkfcilandmhomaaDoor

namespace Go.Proofs.YtkfcilandmhomaaDoor
open Go.RowKit
set_option maxRecDepth 8000
theorem cellLt {w : World} {a : Addr} {v : Value} (h : w.cell? a = some v) : a.block < w.heap.size := by
  rcases Nat.lt_or_ge a.block w.heap.size with h1 | h1
  · exact h1
  · simp [World.cell?, Array.getElem?_eq_none h1] at h
theorem one_u8 (zs : List Int) : ∀ u ∈ zs.map (Value.int .u8), u.oneCell' = true := by
  intro u hu
  obtain ⟨j, _, rfl⟩ := List.mem_map.1 hu
  rfl
theorem OwnBy.src {base : Nat} {w : World} {p : Option Addr} {n c : Nat} {zs : List Int} (h : OwnBy base w (.slice p n c) zs) (hn : n = zs.length) : Src w p n c 1 (zs.map (.int .u8)) := by
  subst hn
  have hc := @World.ownsRow.cells _ _ _ _ _ _ _ h
  obtain ⟨hl, ⟨hv, h0⟩ | ⟨g, cap, cur, hv, _⟩⟩ := id h
  · simp only [Value.slice.injEq] at hv
    obtain ⟨rfl, h2, rfl⟩ := hv
    exact .inl ⟨rfl, h2, rfl, by rw [List.eq_nil_of_length_eq_zero h0]; rfl⟩
  · simp only [Value.slice.injEq] at hv
    obtain ⟨rfl, h2, rfl⟩ := hv
    exact .inr ⟨⟨g, 0, none⟩, rfl, by simp, fun j u hu => hc (g := g) rfl j u hu⟩
set_option maxHeartbeats 1000000 in
/-- bytes.Clone -/
theorem bclone_any (p : Option Addr) (c : Nat) (zs : List Int) (w : World) (hs : Src w p zs.length c 1 (zs.map (.int .u8))) (hle : zs.length ≤ 100000000) :
    Calls Tryd.prog 28 #[.slice p zs.length c] w fun e w' => ∃ (p' : Option Addr) (c' : Nat), e = .returned (.slice p' zs.length c') ∧ OwnBy w.heap.size w' (.slice p' zs.length c') zs ∧ Below w.heap.size w w' := by
  cases p with
  | none =>
    obtain ⟨_, h0, hc, _⟩ | ⟨ad, h, _⟩ := hs
    · rw [h0, hc]
      have hnil : ∀ W, (binOp .eql 30 (.slice none 0 0) (.slice none 0 0)).run Tryd.prog W = .ok (.bool true) W := fun W => run_eql_slice_nil W 30 5 none 0 0 Tryd.underlying30
      go_enter Tryd.func28, Tryd.ntmps28
      go_wp2
      refine bodyPost_ret (v := .slice none 0 0) (by simp [results, Tryd.results28, go_sem]) rfl ⟨none, 0, rfl, ?_, Below.refl _ _⟩
      obtain rfl : zs = [] := List.eq_nil_of_length_eq_zero h0
      exact World.ownsRow_nil _ _ _ _
    · cases h
  | some ad =>
    obtain ⟨i0, Kd⟩ := kindB
    have hnil : ∀ W, (binOp .eql 30 (.slice (some ad) zs.length c) (.slice none 0 0)).run Tryd.prog W = .ok (.bool false) W := fun W => run_eql_slice_nil W 30 5 (some ad) zs.length c Tryd.underlying30
    have hal : Below w.heap.size w (w.alloc (.cells #[] 5)) := (Below.refl _ _).alloc (Nat.le_refl _) _
    have hown : (w.alloc (.cells #[] 5)).ownsRow w.heap.size 5 1 (.slice (some ⟨w.heap.size, 0, none⟩) 0 0) 0 [] := ⟨rfl, .inr ⟨w.heap.size, 0, #[], rfl, Nat.le_refl _, Go.heap_alloc_new _ _, Nat.le_refl _, Nat.zero_le _, rfl, rfl⟩⟩
    have hs2 : Src (w.alloc (.cells #[] 5)) (some ad) zs.length c 1 (zs.map (.int .u8)) := by
      rcases hs with ⟨h, _⟩ | ⟨ad', h1, h2, h3⟩
      · cases h
      · exact .inr ⟨ad', h1, h2, fun j u hu => (World.cell?_of_block (hal.block _ (cellLt (h3 j u hu)))).trans (h3 j u hu)⟩
    go_enter Tryd.func28, Tryd.ntmps28
    go_wp2_with (at_builtin; refine wpList_appS rfl (.tmp 5) (.tmp 6) 30 5 i0 _ 1 1 Kd rfl w.heap.size _ 0 [] rfl hown (some ad) zs.length c _ rfl hs2 (one_u8 zs) (by omega) (by omega) (by simp) ?_)
    intro v' w' ho hg hn
    have HO : Hid (OwnBy w.heap.size w' v' zs) := by
      show w'.ownsRow _ _ _ _ _ _
      simpa using ho
    obtain ⟨p', c', hv⟩ := ownsRow_slice HO.out
    subst hv
    have HB : Hid (Below w.heap.size w w') := hal.grown hg (by simp) (fun k hk => (hown.lt k hk).1)
    clear ho hg hn hs hs2 hown hal
    go_wp2
    exact bodyPost_ret (v := .slice p' zs.length c') (by simp [results, Tryd.results28, go_sem]) rfl ⟨p', c', rfl, HO.out, HB.out⟩
end Go.Proofs.YtkfcilandmhomaaDoor

namespace Go.Proofs.YtkfcilandmhomaaDoor
open Go.RowKit
set_option maxRecDepth 8000
theorem bat_pos {s : ByteArray} (h : Nm s) {i : Nat} (hi : i < s.size) : 0 < bat s i := by
  unfold bat
  rw [dif_pos hi]
  have := okB_pos (h.ok i hi)
  omega
theorem bat_end {s : ByteArray} {i : Nat} (hi : s.size ≤ i) : bat s i = 0 := by
  unfold bat
  rw [dif_neg (by omega)]
theorem lab_cell {w : World} {q : Nat} {s : ByteArray} (h : Box w q (labC s).toArray 69) (i : Nat) (hi : i < 12) : w.cell? ⟨q, i, none⟩ = some (.int .u8 (bat s i)) := by
  rw [h.cell]
  match i, hi with
  | 0, _ => rfl
  | 1, _ => rfl
  | 2, _ => rfl
  | 3, _ => rfl
  | 4, _ => rfl
  | 5, _ => rfl
  | 6, _ => rfl
  | 7, _ => rfl
  | 8, _ => rfl
  | 9, _ => rfl
  | 10, _ => rfl
  | 11, _ => rfl
set_option maxHeartbeats 2000000 in
theorem trimR_any (w : World) (q : Nat) (s : ByteArray) (hs : Nm s) (h : Box w q (labC s).toArray 69) :
    Calls Tryd.prog 54 #[.slice (some ⟨q, 0, none⟩) 12 12, .int .u8 0] w fun e w' => e = .returned (.slice (some ⟨q, 0, none⟩) s.size 12) ∧ w' = w := by
  have hp := hs.pos
  have hle := hs.le
  have HN := hid hs
  have HX := hid h
  clear hs h
  go_enter Tryd.func54, Tryd.ntmps54
  go_wp2_with fail
  go_loopw [0] (fun x wr => ∃ m : Nat, s.size ≤ m + 1 ∧ m < 12 ∧ x = .slice (some ⟨q, 0, none⟩) (m + 1) 12 ∧ wr = w) (fun x _ => match x with | .slice _ n _ => n | _ => 0)
  case atStart => exact ⟨11, by omega, by omega, rfl, rfl⟩
  case round =>
    obtain ⟨m, h1, h2, rfl, rfl⟩ := hrel
    have c0 := lab_cell HX.out m h2
    by_cases hm : s.size = m + 1
    · have hb := bat_pos HN.out (show m < s.size by omega)
      have hb' : (bat s m == 0) = false := by simp; omega
      clear hb
      go_wp2
      exact bodyPost_ret (v := .slice (some ⟨q, 0, none⟩) (m + 1) 12) (by simp [results, Tryd.results54, go_sem]) rfl ⟨by rw [hm], rfl⟩
    · rw [bat_end (show s.size ≤ m by omega)] at c0
      obtain ⟨k, rfl⟩ : ∃ k, m = k + 1 := ⟨m - 1, by omega⟩
      go_wp2
      go_roundw
      case rel => exact ⟨k, by omega, by omega, by first | rfl | simp, by first | rfl | trivial⟩
      case measure => simp
set_option maxHeartbeats 2000000 in
theorem trim_any (w : World) (q : Nat) (s : ByteArray) (hs : Nm s) (h : Box w q (labC s).toArray 69) :
    Calls Tryd.prog 48 #[.slice (some ⟨q, 0, none⟩) 12 12, .string ⟨#[0]⟩] w fun e w' => e = .returned (.slice (some ⟨q, 0, none⟩) s.size 12) ∧ w' = w := by
  have HC := hid (trimR_any w q s hs h)
  clear hs h
  go_enter Tryd.func48, Tryd.ntmps48
  go_wp2_with fail
  refine HC.out.mono ?_
  rintro e w' ⟨rfl, rfl⟩
  go_wp2
  exact bodyPost_ret (v := .slice (some ⟨q, 0, none⟩) s.size 12) (by simp [results, Tryd.results48, go_sem]) rfl ⟨rfl, rfl⟩
def strOf (zs : List Int) : ByteArray := zs.foldl (fun r n => r.push (UInt8.ofNat n.toNat)) ByteArray.empty
theorem strOf_data (zs : List Int) : (strOf zs).data.toList = zs.map fun z => UInt8.ofNat z.toNat := by
  have key : ∀ (zs : List Int) (r : ByteArray), (zs.foldl (fun r n => r.push (UInt8.ofNat n.toNat)) r).data.toList = r.data.toList ++ zs.map fun z => UInt8.ofNat z.toNat := by
    intro zs
    induction zs with
    | nil => intro r; simp
    | cons z zs ih => intro r; rw [List.foldl_cons, ih]; simp [ByteArray.push]
  rw [strOf, key]; rfl
theorem str_bat (s : ByteArray) : strOf ((List.range s.size).map (bat s)) = s := by
  apply ByteArray.ext
  apply Array.toList_inj.1
  rw [strOf_data]
  apply List.ext_getElem?
  intro i
  by_cases h : i < s.size
  · have h2 : i < s.data.toList.length := by simpa using h
    rw [List.getElem?_eq_getElem h2]
    simp only [List.map_map, List.getElem?_map, List.getElem?_range h, Option.map_some, Function.comp_apply, bat]
    rw [dif_pos h]
    simp
    rfl
  · rw [List.getElem?_eq_none (by simp; omega), List.getElem?_eq_none (by simp; exact Nat.le_of_not_lt h)]
set_option maxHeartbeats 2000000 in
/-- a label's name -/
theorem name_any (s : ByteArray) (hs : Nm s) (w : World) : Calls Tryd.prog 34 #[labV s] w fun e w' => e = .returned (.string s) ∧ Below w.heap.size w w' := by
  obtain ⟨W, hW⟩ : ∃ V, V = w.alloc (.cells (labC s).toArray 69) := ⟨_, rfl⟩
  have hB : Below w.heap.size w W := by rw [hW]; exact (Below.refl _ _).alloc (Nat.le_refl _) _
  have hX : Box W w.heap.size (labC s).toArray 69 := by rw [hW]; exact Box.new _ _ _
  have HT := hid (trim_any W w.heap.size s hs hX)
  have hcv : (convert 30 9 (.slice (some ⟨w.heap.size, 0, none⟩) s.size 12)).run Tryd.prog W = .ok (.string s) W := by
    rw [run_convert_bytes_string (P := Tryd.prog) W 30 9 5 _ _ _ Tryd.underlying30 Tryd.underlying5 Tryd.underlying9]
    have hl := run_loadCells_list (P := Tryd.prog) (w := W) ⟨w.heap.size, 0, none⟩ (((List.range s.size).map (bat s)).map (Value.int .u8)) (fun j u hu => by
      rw [Go.WideShapes.add_plain]
      by_cases hj : j < s.size
      · simp [List.getElem?_range hj] at hu
        rw [← hu, show 0 + j = j by omega]
        exact lab_cell hX j (by have := hs.le; omega)
      · rw [List.getElem?_eq_none (by simp; omega)] at hu; cases hu)
    simp only [List.length_map, List.length_range] at hl
    have h2 := run_bytesToString W ⟨w.heap.size, 0, none⟩ s.size 12 ((List.range s.size).map (bat s)) hl
    rw [h2]
    show Result.ok (Value.string (strOf ((List.range s.size).map (bat s)))) W = _
    rw [str_bat]
  have HW := hid hW
  have HB := hid hB
  clear hW hB hX
  simp only [labV, labC]
  go_enter Tryd.func34, Tryd.ntmps34
  go_upto_region 1 with fail
  have hw := HW.out
  simp only [labC] at hw
  rw [← hw]
  clear hw
  go_wp2_with fail
  refine HT.out.mono ?_
  rintro e w' ⟨rfl, rfl⟩
  go_wp2
  exact bodyPost_ret (v := .string s) (by simp [results, Tryd.results34, go_sem]) rfl ⟨rfl, HB.out⟩
end Go.Proofs.YtkfcilandmhomaaDoor
