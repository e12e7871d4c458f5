import Derived.Shelf.SlLaysF0
import Derived.Test.YtkfcilandmhomaaDoorProg
import Derived.Test.YtkfcilandmhomaaDoorPack7
import Derived.Sort.OwnSorted
namespace Go.Proofs
open Go.Shelf
def Tryd.sortL_ren : Go.Shelf.Ren := ⟨fun | 6 => 51 | 15 => 60 | 14 => 59 | 28 => 73 | 29 => 74 | 20 => 65 | 21 => 66 | 22 => 67 | 23 => 68 | 24 => 69 | 25 => 70 | 26 => 71 | 27 => 72 | 46 => 77 | 47 => 78 | 48 => 79 | 49 => 80 | 50 => 81 | 57 => 83 | n => n, fun | 22 => 79 | 24 => 69 | 25 => 94 | 3 => 3 | 39 => 113 | 0 => 0 | 53 => 126 | 55 => 128 | 4 => 4 | 46 => 119 | 45 => 118 | 50 => 123 | 5 => 5 | 9 => 9 | 66 => 129 | 70 => 133 | 76 => 135 | 77 => 136 | n => n, fun | n => n⟩
theorem Tryd.sortL : Go.Proofs.SlLaysF0.n6 Tryd.prog Tryd.sortL_ren := {
  mixed := by kernel_rfl
  f6 := ⟨Tryd.f51.name, by decide, Tryd.func51.trans (congrArg some (by kernel_rfl))⟩
  f14 := ⟨Tryd.f59.name, by decide, Tryd.func59.trans (congrArg some (by kernel_rfl))⟩
  f15 := Tryd.func60.trans (congrArg some (by kernel_rfl))
  f20 := ⟨Tryd.f65.name, by decide, Tryd.func65.trans (congrArg some (by kernel_rfl))⟩
  f21 := ⟨Tryd.f66.name, by decide, Tryd.func66.trans (congrArg some (by kernel_rfl))⟩
  f22 := ⟨Tryd.f67.name, by decide, Tryd.func67.trans (congrArg some (by kernel_rfl))⟩
  f23 := ⟨Tryd.f68.name, by decide, Tryd.func68.trans (congrArg some (by kernel_rfl))⟩
  f24 := ⟨Tryd.f69.name, by decide, Tryd.func69.trans (congrArg some (by kernel_rfl))⟩
  f25 := ⟨Tryd.f70.name, by decide, Tryd.func70.trans (congrArg some (by kernel_rfl))⟩
  f26 := ⟨Tryd.f71.name, by decide, Tryd.func71.trans (congrArg some (by kernel_rfl))⟩
  f27 := ⟨Tryd.f72.name, by decide, Tryd.func72.trans (congrArg some (by kernel_rfl))⟩
  f28 := Tryd.func73.trans (congrArg some (by kernel_rfl))
  f29 := Tryd.func74.trans (congrArg some (by kernel_rfl))
  f46 := ⟨Tryd.f77.name, by decide, Tryd.func77.trans (congrArg some (by kernel_rfl))⟩
  f47 := Tryd.func78.trans (congrArg some (by kernel_rfl))
  f48 := Tryd.func79.trans (congrArg some (by kernel_rfl))
  f49 := ⟨Tryd.f80.name, by decide, Tryd.func80.trans (congrArg some (by kernel_rfl))⟩
  f50 := ⟨Tryd.f81.name, by decide, Tryd.func81.trans (congrArg some (by kernel_rfl))⟩
  f57 := ⟨Tryd.f83.name, by decide, Tryd.func83.trans (congrArg some (by kernel_rfl))⟩
  t0 := Tryd.underlying0
  a0 := Tryd.isAgg0
  z0 := Tryd.sizeOf0
  v0 := Tryd.zeroValue0
  t3 := Tryd.underlying3
  a3 := Tryd.isAgg3
  z3 := Tryd.sizeOf3
  v3 := Tryd.zeroValue3
  t4 := Tryd.underlying4
  a4 := Tryd.isAgg4
  z4 := Tryd.sizeOf4
  v4 := Tryd.zeroValue4
  t5 := Tryd.underlying5
  a5 := Tryd.isAgg5
  z5 := Tryd.sizeOf5
  v5 := Tryd.zeroValue5
  t9 := Tryd.underlying9
  a9 := Tryd.isAgg9
  z9 := Tryd.sizeOf9
  v9 := Tryd.zeroValue9
  t22 := Tryd.underlying79
  a22 := Tryd.isAgg79
  z22 := Tryd.sizeOf79
  v22 := Tryd.zeroValue79
  t25 := Tryd.underlying94
  a25 := Tryd.isAgg94
  z25 := Tryd.sizeOf94
  v25 := Tryd.zeroValue94
  t39 := Tryd.underlying113
  a39 := Tryd.isAgg113
  z39 := Tryd.sizeOf113
  v39 := Tryd.zeroValue113
  t45 := Tryd.underlying118
  a45 := Tryd.isAgg118
  z45 := Tryd.sizeOf118
  v45 := Tryd.zeroValue118
  t46 := Tryd.underlying119
  a46 := Tryd.isAgg119
  z46 := Tryd.sizeOf119
  v46 := Tryd.zeroValue119
  t50 := Tryd.underlying123
  a50 := Tryd.isAgg123
  z50 := Tryd.sizeOf123
  v50 := Tryd.zeroValue123
  t53 := Tryd.underlying126
  a53 := Tryd.isAgg126
  z53 := Tryd.sizeOf126
  v53 := Tryd.zeroValue126
  t55 := Tryd.underlying128
  a55 := Tryd.isAgg128
  z55 := Tryd.sizeOf128
  v55 := Tryd.zeroValue128
  t66 := Tryd.underlying129
  a66 := Tryd.isAgg129
  z66 := Tryd.sizeOf129
  v66 := Tryd.zeroValue129
  t70 := Tryd.underlying133
  a70 := Tryd.isAgg133
  z70 := Tryd.sizeOf133
  v70 := Tryd.zeroValue133
  t76 := Tryd.underlying135
  a76 := Tryd.isAgg135
  z76 := Tryd.sizeOf135
  v76 := Tryd.zeroValue135
  t77 := Tryd.underlying136
  a77 := Tryd.isAgg136
  z77 := Tryd.sizeOf136
  v77 := Tryd.zeroValue136 }
end Go.Proofs

namespace Go.Proofs.YtkfcilandmhomaaDoor
open Go.RowKit
set_option maxRecDepth 8000
theorem flat_eq (XS : List ByteArray) : (Go.Sort.flatK labC 12 XS.toArray).toList = XS.flatMap labC := by
  have hlen : ∀ XS : List ByteArray, (XS.flatMap labC).length = XS.length * 12 := fun XS => by
    induction XS with
    | nil => rfl
    | cons x XS ih => rw [List.flatMap_cons, List.length_append, ih, List.length_cons]; show 12 + _ = _; omega
  have hget : ∀ (XS : List ByteArray) (t : Nat), t < XS.length * 12 → (XS.flatMap labC)[t]? = some ((labC XS.toArray[t / 12]!)[t % 12]!) := by
    intro XS
    induction XS with
    | nil => intro t ht; simp at ht
    | cons x XS ih =>
      intro t ht
      rw [List.flatMap_cons]
      by_cases h : t < 12
      · rw [List.getElem?_append_left (by show t < 12; exact h)]
        have e1 : t / 12 = 0 := by omega
        have e2 : t % 12 = t := by omega
        rw [e1, e2]
        simp only [List.getElem!_toArray, List.getElem!_cons_zero]
        rw [getElem!_pos (labC x) t (show t < 12 from h), List.getElem?_eq_getElem (show t < 12 from h)]
      · rw [List.getElem?_append_right (by show 12 ≤ t; omega)]
        show (XS.flatMap labC)[t - 12]? = _
        simp only [List.length_cons] at ht
        rw [ih (t - 12) (by omega)]
        have e1 : t / 12 = (t - 12) / 12 + 1 := by omega
        have e2 : t % 12 = (t - 12) % 12 := by omega
        rw [e1, e2]
        simp
  apply List.ext_getElem?
  intro t
  by_cases h : t < XS.length * 12
  · rw [hget XS t h]
    have hs : t < (Go.Sort.flatK labC 12 XS.toArray).size := by simp; exact h
    rw [Array.getElem?_toList, Array.getElem?_eq_getElem hs]
    have := Go.Sort.get_flatK labC 12 XS.toArray t (by simpa using h)
    rw [getElem!_pos _ t hs] at this
    rw [this]
  · rw [List.getElem?_eq_none (by simp; omega), List.getElem?_eq_none (by rw [hlen]; omega)]
theorem holds_row {w : World} {g : Nat} {cur : Array Value} {e : TypeId} {F : Array Value} (hb : w.heap[g]? = some (.cells cur e (0, 0))) (ht : cur.toList.take F.size = F.toList) : Go.Sort.Holds id w g 0 F := by
  intro j hj
  refine ⟨?_, by simp [World.frozen?, hb]⟩
  have h1 : (cur.toList.take F.size)[j]? = F.toList[j]? := by rw [ht]
  rw [List.getElem?_take_of_lt hj] at h1
  simp only [World.cell?, hb, Nat.zero_add]
  simp only [Option.isSome_none, Bool.false_eq_true, if_false]
  rw [← Array.getElem?_toList, h1, Array.getElem?_toList, Array.getElem?_eq_getElem hj, getElem!_pos F j hj]
  rfl
theorem heap_srt {w : World} {g n : Nat} {os : Array Obj} {cur : Array Value} {e : TypeId} {fr : Nat × Nat} (F : Array Value) (hb : w.heap[g]? = some (.cells cur e fr)) :
    (Go.Sort.grow (Go.Sort.putRow id (Go.Sort.ahead w n) g 0 F) os).heap[g]? = some (.cells (Go.Sort.putCells id 0 F cur) e fr) := by
  have hg : g < w.heap.size := (Array.getElem?_eq_some_iff.1 hb).1
  rw [Go.Sort.heap_grow_old _ _ (by simpa using hg)]
  simp [Go.Sort.putRow, Go.Sort.mapBlock, Go.Sort.ahead, Array.getElem?_modify, hb, Go.Sort.onCells]
theorem but_srt {w : World} {g n : Nat} {os : Array Obj} (F : Array Value) : But (fun k => k = g) w (Go.Sort.grow (Go.Sort.putRow id (Go.Sort.ahead w n) g 0 F) os) := by
  refine ⟨rfl, rfl, rfl, by simp, fun k hk hne => ?_⟩
  rw [Go.Sort.heap_grow_old _ _ (by simpa using hk)]
  have : g ≠ k := fun e => hne e.symm
  simp [Go.Sort.putRow, Go.Sort.mapBlock, Go.Sort.ahead, Array.getElem?_modify, this]
theorem take_put (cur F : Array Value) (h : F.size ≤ cur.size) : (Go.Sort.putCells id 0 F cur).toList.take F.size = F.toList := by
  apply List.ext_getElem?
  intro j
  by_cases hj : j < F.size
  · rw [List.getElem?_take_of_lt hj, Array.getElem?_toList]
    simp [Go.Sort.putCells, hj, show j < cur.size by omega]
  · rw [List.getElem?_take_eq_none (by omega), List.getElem?_eq_none (by simp; omega)]
/-- how labels are ordered is a strict weak order -/
theorem cb_self : ∀ l : List UInt8, Go.Lib.compareBytes l l = 0
  | [] => rfl
  | a :: l => by simp [Go.Lib.compareBytes, cb_self l]
theorem u8_lt {a b : UInt8} : a < b ↔ a.toNat < b.toNat := UInt8.lt_iff_toNat_lt
theorem cb_trans : ∀ (a b c : List UInt8), Go.Lib.compareBytes a b < 0 → Go.Lib.compareBytes b c < 0 → Go.Lib.compareBytes a c < 0
  | [], [], _, h, _ => by simp [Go.Lib.compareBytes] at h
  | [], _ :: _, [], _, h => by simp [Go.Lib.compareBytes] at h
  | [], _ :: _, _ :: _, _, _ => by simp [Go.Lib.compareBytes]
  | _ :: _, [], _, h, _ => by simp [Go.Lib.compareBytes] at h
  | _ :: _, _ :: _, [], _, h => by simp [Go.Lib.compareBytes] at h
  | x :: a, y :: b, z :: c, h1, h2 => by
    simp only [Go.Lib.compareBytes, u8_lt] at h1 h2 ⊢
    have ih := cb_trans a b c
    split at h1
    · split at h2
      · rw [if_pos (by omega)]; omega
      · split at h2
        · omega
        · rw [if_pos (by omega)]; omega
    · split at h1
      · omega
      · split at h2
        · rw [if_pos (by omega)]; omega
        · split at h2
          · omega
          · rw [if_neg (by omega), if_neg (by omega)]; exact ih h1 h2
theorem cb_ntrans : ∀ (a b c : List UInt8), ¬ Go.Lib.compareBytes a b < 0 → ¬ Go.Lib.compareBytes b c < 0 → ¬ Go.Lib.compareBytes a c < 0
  | [], [], [], _, _ => by simp [Go.Lib.compareBytes]
  | [], [], _ :: _, _, h => by simp [Go.Lib.compareBytes] at h
  | [], _ :: _, _, h, _ => by simp [Go.Lib.compareBytes] at h
  | _ :: _, _, [], _, _ => by simp [Go.Lib.compareBytes]
  | _ :: _, [], _ :: _, _, h => by simp [Go.Lib.compareBytes] at h
  | x :: a, y :: b, z :: c, h1, h2 => by
    simp only [Go.Lib.compareBytes, u8_lt] at h1 h2 ⊢
    have ih := cb_ntrans a b c
    split at h1
    · omega
    · split at h1
      · split at h2
        · omega
        · split at h2
          · rw [if_neg (by omega), if_pos (by omega)]; omega
          · rw [if_neg (by omega), if_pos (by omega)]; omega
      · split at h2
        · omega
        · split at h2
          · rw [if_neg (by omega), if_pos (by omega)]; omega
          · rw [if_neg (by omega), if_neg (by omega)]; exact ih h1 h2
theorem cmpSwo : Go.Sort.SWO (Go.Proofs.ltOf cmpN) where
  irrefl x := by simp [Go.Proofs.ltOf, cmpN, cb_self]
  trans x y z h1 h2 := by
    simp only [Go.Proofs.ltOf, decide_eq_true_eq] at h1 h2 ⊢
    exact cb_trans _ _ _ h1 h2
  ntrans x y z h1 h2 := by
    simp only [Go.Proofs.ltOf, decide_eq_false_iff_not] at h1 h2 ⊢
    exact cb_ntrans _ _ _ h1 h2
end Go.Proofs.YtkfcilandmhomaaDoor

namespace Go.Proofs.YtkfcilandmhomaaDoor
open Go.RowKit
set_option maxRecDepth 8000
theorem aggL (w : World) : (isAgg (Tryd.sortL_ren.t 24)).run Tryd.prog w = .ok true w := by
  have h : Tryd.sortL_ren.t 24 = 69 := by kernel_rfl
  rw [h]
  simp [isAgg, go_sem]
theorem sizL (w : World) : (Go.sizeOf (Tryd.sortL_ren.t 24)).run Tryd.prog w = .ok 12 w := by
  have h : Tryd.sortL_ren.t 24 = 69 := by kernel_rfl
  rw [h]
  simp [Go.sizeOf, go_sem]
  rfl
set_option maxHeartbeats 1000000 in
/-- slices.SortFunc: the same row, its labels in their order -/
theorem sortF_any (base p0 c : Nat) (XS : List ByteArray) (w : World) (hn : 0 < XS.length) (hle : XS.length ≤ 1000000) (hown : w.ownsRow base 69 12 (.slice (some ⟨p0, 0, none⟩) XS.length c) XS.length (XS.flatMap labC)) :
    Calls Tryd.prog 51 #[.slice (some ⟨p0, 0, none⟩) XS.length c, .func (.func 47) #[] #[]] w fun e w' => e = .returned (.tuple #[]) ∧ ∃ YS : List ByteArray, YS.Perm XS ∧ YS.Pairwise (fun a b => ¬ cmpN b a < 0) ∧ w'.ownsRow base 69 12 (.slice (some ⟨p0, 0, none⟩) XS.length c) XS.length (YS.flatMap labC) ∧ But (fun k => k = p0) w w' := by
  have hrow := hown
  obtain ⟨hl, ⟨hv, h0⟩ | ⟨g, cap, cur, hv, hbg, hh, hnc, hcm, hcs, htake⟩⟩ := hown
  · cases hv
  simp only [Value.slice.injEq, Option.some.injEq, Addr.mk.injEq, true_and, and_true] at hv
  obtain ⟨rfl, rfl⟩ := hv
  have hFs : (Go.Sort.flatK labC 12 XS.toArray).size = XS.length * 12 := by simp
  have hH : Go.Sort.HoldsK labC 12 w p0 0 XS.toArray := holds_row hh (by rw [hFs, flat_eq]; exact htake)
  have hblk : p0 < w.heap.size := (Array.getElem?_eq_some_iff.1 hh).1
  have eg : ∀ args w, (callFunc 47 args).run Tryd.prog w = .ok (.enter 47 args) w := enters_of Tryd.func47 (by kernel_rfl) rfl
  have hcon := AnyQ.slices_SortFunc Tryd.sortL 12 aggL sizL labC (fun _ => rfl) labC_one cmpN cmpSwo 47 #[] p0 0 c XS.toArray w eg (fun m os dk _ x y => compare_any x y _) hH hblk (by simp; omega)
  change Calls Tryd.prog 51 _ _ _ at hcon
  have hsz : XS.toArray.size = XS.length := by simp
  rw [hsz] at hcon
  refine hcon.mono ?_
  rintro e w' ⟨rfl, d', n, os, hp, hs, rfl⟩
  have hd : d'.size = XS.length := by rw [hp.1, hsz]
  have hd2 : d'.toList.toArray = d' := by simp
  have hF' : (Go.Sort.flatK labC 12 d').toList = d'.toList.flatMap labC := by have := flat_eq d'.toList; rw [hd2] at this; exact this
  have hFs' : (Go.Sort.flatK labC 12 d').size = XS.length * 12 := by simp [hd]
  refine ⟨rfl, d'.toList, ?_, ?_, ?_, but_srt _⟩
  · have h := hp.2.2
    rw [← hd] at h
    simp only [Array.extract_size] at h
    rw [hd, ← hsz, Array.extract_size] at h
    simpa using h
  · rw [List.pairwise_iff_getElem]
    intro i j hi hj hij
    have h := hs i j (Nat.zero_le _) hij (by simpa [hd] using hj)
    simp only [ltOf, decide_eq_false_iff_not] at h
    rw [getElem!_pos d' i (by simpa using hi), getElem!_pos d' j (by simpa using hj)] at h
    simpa using h
  · refine ⟨?_, .inr ⟨p0, c, Go.Sort.putCells id 0 (Go.Sort.flatK labC 12 d') cur, rfl, hbg, heap_srt _ hh, hnc, hcm, by simp [Go.Sort.putCells, hcs], ?_⟩⟩
    · rw [← hF', Array.length_toList, hFs']
    · rw [← hF', ← hFs']
      refine take_put _ _ ?_
      have h2 := congrArg List.length htake
      simp only [List.length_take, Array.length_toList] at h2
      have h3 : XS.length * 12 ≤ cur.size := by rw [hcs]; exact Nat.mul_le_mul_right _ hnc
      rw [hFs']; exact h3
end Go.Proofs.YtkfcilandmhomaaDoor
