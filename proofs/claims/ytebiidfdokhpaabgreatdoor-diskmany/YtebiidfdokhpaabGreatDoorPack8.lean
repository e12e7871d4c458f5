import Derived.Shelf.SlLaysF0
import Derived.Test.YtebiidfdokhpaabGreatDoorProg
import Derived.Test.YtebiidfdokhpaabGreatDoorPack7
import Derived.Sort.OwnSorted
namespace Go.Proofs
open Go.Shelf
def Tryz.sortL_ren : Go.Shelf.Ren := ⟨fun | 6 => 71 | 15 => 80 | 14 => 79 | 28 => 93 | 29 => 94 | 20 => 85 | 21 => 86 | 22 => 87 | 23 => 88 | 24 => 89 | 25 => 90 | 26 => 91 | 27 => 92 | 46 => 97 | 47 => 98 | 48 => 99 | 49 => 100 | 50 => 101 | 57 => 103 | n => n, fun | 22 => 55 | 24 => 58 | 25 => 113 | 3 => 3 | 39 => 136 | 0 => 0 | 53 => 149 | 55 => 151 | 4 => 4 | 46 => 142 | 45 => 141 | 50 => 146 | 5 => 5 | 9 => 9 | 66 => 152 | 70 => 156 | 76 => 158 | 77 => 52 | n => n, fun | n => n⟩
theorem Tryz.sortL : Go.Proofs.SlLaysF0.n6 Tryz.prog Tryz.sortL_ren := {
  mixed := by kernel_rfl
  f6 := ⟨Tryz.f71.name, by decide, Tryz.func71.trans (congrArg some (by kernel_rfl))⟩
  f14 := ⟨Tryz.f79.name, by decide, Tryz.func79.trans (congrArg some (by kernel_rfl))⟩
  f15 := Tryz.func80.trans (congrArg some (by kernel_rfl))
  f20 := ⟨Tryz.f85.name, by decide, Tryz.func85.trans (congrArg some (by kernel_rfl))⟩
  f21 := ⟨Tryz.f86.name, by decide, Tryz.func86.trans (congrArg some (by kernel_rfl))⟩
  f22 := ⟨Tryz.f87.name, by decide, Tryz.func87.trans (congrArg some (by kernel_rfl))⟩
  f23 := ⟨Tryz.f88.name, by decide, Tryz.func88.trans (congrArg some (by kernel_rfl))⟩
  f24 := ⟨Tryz.f89.name, by decide, Tryz.func89.trans (congrArg some (by kernel_rfl))⟩
  f25 := ⟨Tryz.f90.name, by decide, Tryz.func90.trans (congrArg some (by kernel_rfl))⟩
  f26 := ⟨Tryz.f91.name, by decide, Tryz.func91.trans (congrArg some (by kernel_rfl))⟩
  f27 := ⟨Tryz.f92.name, by decide, Tryz.func92.trans (congrArg some (by kernel_rfl))⟩
  f28 := Tryz.func93.trans (congrArg some (by kernel_rfl))
  f29 := Tryz.func94.trans (congrArg some (by kernel_rfl))
  f46 := ⟨Tryz.f97.name, by decide, Tryz.func97.trans (congrArg some (by kernel_rfl))⟩
  f47 := Tryz.func98.trans (congrArg some (by kernel_rfl))
  f48 := Tryz.func99.trans (congrArg some (by kernel_rfl))
  f49 := ⟨Tryz.f100.name, by decide, Tryz.func100.trans (congrArg some (by kernel_rfl))⟩
  f50 := ⟨Tryz.f101.name, by decide, Tryz.func101.trans (congrArg some (by kernel_rfl))⟩
  f57 := ⟨Tryz.f103.name, by decide, Tryz.func103.trans (congrArg some (by kernel_rfl))⟩
  t0 := Tryz.underlying0
  a0 := Tryz.isAgg0
  z0 := Tryz.sizeOf0
  v0 := Tryz.zeroValue0
  t3 := Tryz.underlying3
  a3 := Tryz.isAgg3
  z3 := Tryz.sizeOf3
  v3 := Tryz.zeroValue3
  t4 := Tryz.underlying4
  a4 := Tryz.isAgg4
  z4 := Tryz.sizeOf4
  v4 := Tryz.zeroValue4
  t5 := Tryz.underlying5
  a5 := Tryz.isAgg5
  z5 := Tryz.sizeOf5
  v5 := Tryz.zeroValue5
  t9 := Tryz.underlying9
  a9 := Tryz.isAgg9
  z9 := Tryz.sizeOf9
  v9 := Tryz.zeroValue9
  t22 := Tryz.underlying55
  a22 := Tryz.isAgg55
  z22 := Tryz.sizeOf55
  v22 := Tryz.zeroValue55
  t25 := Tryz.underlying113
  a25 := Tryz.isAgg113
  z25 := Tryz.sizeOf113
  v25 := Tryz.zeroValue113
  t39 := Tryz.underlying136
  a39 := Tryz.isAgg136
  z39 := Tryz.sizeOf136
  v39 := Tryz.zeroValue136
  t45 := Tryz.underlying141
  a45 := Tryz.isAgg141
  z45 := Tryz.sizeOf141
  v45 := Tryz.zeroValue141
  t46 := Tryz.underlying142
  a46 := Tryz.isAgg142
  z46 := Tryz.sizeOf142
  v46 := Tryz.zeroValue142
  t50 := Tryz.underlying146
  a50 := Tryz.isAgg146
  z50 := Tryz.sizeOf146
  v50 := Tryz.zeroValue146
  t53 := Tryz.underlying149
  a53 := Tryz.isAgg149
  z53 := Tryz.sizeOf149
  v53 := Tryz.zeroValue149
  t55 := Tryz.underlying151
  a55 := Tryz.isAgg151
  z55 := Tryz.sizeOf151
  v55 := Tryz.zeroValue151
  t66 := Tryz.underlying152
  a66 := Tryz.isAgg152
  z66 := Tryz.sizeOf152
  v66 := Tryz.zeroValue152
  t70 := Tryz.underlying156
  a70 := Tryz.isAgg156
  z70 := Tryz.sizeOf156
  v70 := Tryz.zeroValue156
  t76 := Tryz.underlying158
  a76 := Tryz.isAgg158
  z76 := Tryz.sizeOf158
  v76 := Tryz.zeroValue158
  t77 := Tryz.underlying52
  a77 := Tryz.isAgg52
  z77 := Tryz.sizeOf52
  v77 := Tryz.zeroValue52 }
end Go.Proofs

namespace Go.Proofs.YtebiidfdokhpaabGreatDoor
open Go.RowKit
set_option maxRecDepth 8000
theorem flat_eq (XS : List ByteArray) : (Go.Sort.flatK labC 12 XS.toArray).toList = XS.flatMap labC := by
  have hlen : ∀ XS : List ByteArray, (XS.flatMap labC).length = XS.length * 12 := fun XS => by
    induction XS with
    | nil => rfl
    | cons x XS ih => rw [List.flatMap_cons, List.length_append, ih, List.length_cons]; show 12 + _ = _; omega
  have hget : ∀ (XS : List ByteArray) (t : Nat), t < XS.length * 12 → (XS.flatMap labC)[t]? = some ((labC XS.toArray[t / 12]!)[t % 12]!) := by
    intro XS
    induction XS with
    | nil => intro t ht; simp at ht
    | cons x XS ih =>
      intro t ht
      rw [List.flatMap_cons]
      by_cases h : t < 12
      · rw [List.getElem?_append_left (by show t < 12; exact h)]
        have e1 : t / 12 = 0 := by omega
        have e2 : t % 12 = t := by omega
        rw [e1, e2]
        simp only [List.getElem!_toArray, List.getElem!_cons_zero]
        rw [getElem!_pos (labC x) t (show t < 12 from h), List.getElem?_eq_getElem (show t < 12 from h)]
      · rw [List.getElem?_append_right (by show 12 ≤ t; omega)]
        show (XS.flatMap labC)[t - 12]? = _
        simp only [List.length_cons] at ht
        rw [ih (t - 12) (by omega)]
        have e1 : t / 12 = (t - 12) / 12 + 1 := by omega
        have e2 : t % 12 = (t - 12) % 12 := by omega
        rw [e1, e2]
        simp
  apply List.ext_getElem?
  intro t
  by_cases h : t < XS.length * 12
  · rw [hget XS t h]
    have hs : t < (Go.Sort.flatK labC 12 XS.toArray).size := by simp; exact h
    rw [Array.getElem?_toList, Array.getElem?_eq_getElem hs]
    have := Go.Sort.get_flatK labC 12 XS.toArray t (by simpa using h)
    rw [getElem!_pos _ t hs] at this
    rw [this]
  · rw [List.getElem?_eq_none (by simp; omega), List.getElem?_eq_none (by rw [hlen]; omega)]
theorem holds_row {w : World} {g : Nat} {cur : Array Value} {e : TypeId} {F : Array Value} (hb : w.heap[g]? = some (.cells cur e (0, 0))) (ht : cur.toList.take F.size = F.toList) : Go.Sort.Holds id w g 0 F := by
  intro j hj
  refine ⟨?_, by simp [World.frozen?, hb]⟩
  have h1 : (cur.toList.take F.size)[j]? = F.toList[j]? := by rw [ht]
  rw [List.getElem?_take_of_lt hj] at h1
  simp only [World.cell?, hb, Nat.zero_add]
  simp only [Option.isSome_none, Bool.false_eq_true, if_false]
  rw [← Array.getElem?_toList, h1, Array.getElem?_toList, Array.getElem?_eq_getElem hj, getElem!_pos F j hj]
  rfl
theorem heap_srt {w : World} {g n : Nat} {os : Array Obj} {cur : Array Value} {e : TypeId} {fr : Nat × Nat} (F : Array Value) (hb : w.heap[g]? = some (.cells cur e fr)) :
    (Go.Sort.grow (Go.Sort.putRow id (Go.Sort.ahead w n) g 0 F) os).heap[g]? = some (.cells (Go.Sort.putCells id 0 F cur) e fr) := by
  have hg : g < w.heap.size := (Array.getElem?_eq_some_iff.1 hb).1
  rw [Go.Sort.heap_grow_old _ _ (by simpa using hg)]
  simp [Go.Sort.putRow, Go.Sort.mapBlock, Go.Sort.ahead, Array.getElem?_modify, hb, Go.Sort.onCells]
theorem but_srt {w : World} {g n : Nat} {os : Array Obj} (F : Array Value) : But (fun k => k = g) w (Go.Sort.grow (Go.Sort.putRow id (Go.Sort.ahead w n) g 0 F) os) := by
  refine ⟨rfl, rfl, rfl, by simp, fun k hk hne => ?_⟩
  rw [Go.Sort.heap_grow_old _ _ (by simpa using hk)]
  have : g ≠ k := fun e => hne e.symm
  simp [Go.Sort.putRow, Go.Sort.mapBlock, Go.Sort.ahead, Array.getElem?_modify, this]
theorem take_put (cur F : Array Value) (h : F.size ≤ cur.size) : (Go.Sort.putCells id 0 F cur).toList.take F.size = F.toList := by
  apply List.ext_getElem?
  intro j
  by_cases hj : j < F.size
  · rw [List.getElem?_take_of_lt hj, Array.getElem?_toList]
    simp [Go.Sort.putCells, hj, show j < cur.size by omega]
  · rw [List.getElem?_take_eq_none (by omega), List.getElem?_eq_none (by simp; omega)]
/-- how labels are ordered is a strict weak order -/
theorem cb_self : ∀ l : List UInt8, Go.Lib.compareBytes l l = 0
  | [] => rfl
  | a :: l => by simp [Go.Lib.compareBytes, cb_self l]
theorem u8_lt {a b : UInt8} : a < b ↔ a.toNat < b.toNat := UInt8.lt_iff_toNat_lt
theorem cb_trans : ∀ (a b c : List UInt8), Go.Lib.compareBytes a b < 0 → Go.Lib.compareBytes b c < 0 → Go.Lib.compareBytes a c < 0
  | [], [], _, h, _ => by simp [Go.Lib.compareBytes] at h
  | [], _ :: _, [], _, h => by simp [Go.Lib.compareBytes] at h
  | [], _ :: _, _ :: _, _, _ => by simp [Go.Lib.compareBytes]
  | _ :: _, [], _, h, _ => by simp [Go.Lib.compareBytes] at h
  | _ :: _, _ :: _, [], _, h => by simp [Go.Lib.compareBytes] at h
  | x :: a, y :: b, z :: c, h1, h2 => by
    simp only [Go.Lib.compareBytes, u8_lt] at h1 h2 ⊢
    have ih := cb_trans a b c
    split at h1
    · split at h2
      · rw [if_pos (by omega)]; omega
      · split at h2
        · omega
        · rw [if_pos (by omega)]; omega
    · split at h1
      · omega
      · split at h2
        · rw [if_pos (by omega)]; omega
        · split at h2
          · omega
          · rw [if_neg (by omega), if_neg (by omega)]; exact ih h1 h2
theorem cb_ntrans : ∀ (a b c : List UInt8), ¬ Go.Lib.compareBytes a b < 0 → ¬ Go.Lib.compareBytes b c < 0 → ¬ Go.Lib.compareBytes a c < 0
  | [], [], [], _, _ => by simp [Go.Lib.compareBytes]
  | [], [], _ :: _, _, h => by simp [Go.Lib.compareBytes] at h
  | [], _ :: _, _, h, _ => by simp [Go.Lib.compareBytes] at h
  | _ :: _, _, [], _, _ => by simp [Go.Lib.compareBytes]
  | _ :: _, [], _ :: _, _, h => by simp [Go.Lib.compareBytes] at h
  | x :: a, y :: b, z :: c, h1, h2 => by
    simp only [Go.Lib.compareBytes, u8_lt] at h1 h2 ⊢
    have ih := cb_ntrans a b c
    split at h1
    · omega
    · split at h1
      · split at h2
        · omega
        · split at h2
          · rw [if_neg (by omega), if_pos (by omega)]; omega
          · rw [if_neg (by omega), if_pos (by omega)]; omega
      · split at h2
        · omega
        · split at h2
          · rw [if_neg (by omega), if_pos (by omega)]; omega
          · rw [if_neg (by omega), if_neg (by omega)]; exact ih h1 h2
theorem cmpSwo : Go.Sort.SWO (Go.Proofs.ltOf cmpN) where
  irrefl x := by simp [Go.Proofs.ltOf, cmpN, cb_self]
  trans x y z h1 h2 := by
    simp only [Go.Proofs.ltOf, decide_eq_true_eq] at h1 h2 ⊢
    exact cb_trans _ _ _ h1 h2
  ntrans x y z h1 h2 := by
    simp only [Go.Proofs.ltOf, decide_eq_false_iff_not] at h1 h2 ⊢
    exact cb_ntrans _ _ _ h1 h2
end Go.Proofs.YtebiidfdokhpaabGreatDoor

namespace Go.Proofs.YtebiidfdokhpaabGreatDoor
open Go.RowKit
set_option maxRecDepth 8000
theorem aggL (w : World) : (isAgg (Tryz.sortL_ren.t 24)).run Tryz.prog w = .ok true w := by
  have h : Tryz.sortL_ren.t 24 = 58 := by kernel_rfl
  rw [h]
  simp [isAgg, go_sem]
theorem sizL (w : World) : (Go.sizeOf (Tryz.sortL_ren.t 24)).run Tryz.prog w = .ok 12 w := by
  have h : Tryz.sortL_ren.t 24 = 58 := by kernel_rfl
  rw [h]
  simp [Go.sizeOf, go_sem]
  rfl
set_option maxHeartbeats 1000000 in
/-- slices.SortFunc: the same row, its labels in their order -/
theorem sortF_any (base p0 c : Nat) (XS : List ByteArray) (w : World) (hn : 0 < XS.length) (hle : XS.length ≤ 1000000) (hown : w.ownsRow base 58 12 (.slice (some ⟨p0, 0, none⟩) XS.length c) XS.length (XS.flatMap labC)) :
    Calls Tryz.prog 71 #[.slice (some ⟨p0, 0, none⟩) XS.length c, .func (.func 59) #[] #[]] w fun e w' => e = .returned (.tuple #[]) ∧ ∃ YS : List ByteArray, YS.Perm XS ∧ YS.Pairwise (fun a b => ¬ cmpN b a < 0) ∧ w'.ownsRow base 58 12 (.slice (some ⟨p0, 0, none⟩) XS.length c) XS.length (YS.flatMap labC) ∧ But (fun k => k = p0) w w' := by
  have hrow := hown
  obtain ⟨hl, ⟨hv, h0⟩ | ⟨g, cap, cur, hv, hbg, hh, hnc, hcm, hcs, htake⟩⟩ := hown
  · cases hv
  simp only [Value.slice.injEq, Option.some.injEq, Addr.mk.injEq, true_and, and_true] at hv
  obtain ⟨rfl, rfl⟩ := hv
  have hFs : (Go.Sort.flatK labC 12 XS.toArray).size = XS.length * 12 := by simp
  have hH : Go.Sort.HoldsK labC 12 w p0 0 XS.toArray := holds_row hh (by rw [hFs, flat_eq]; exact htake)
  have hblk : p0 < w.heap.size := (Array.getElem?_eq_some_iff.1 hh).1
  have eg : ∀ args w, (callFunc 59 args).run Tryz.prog w = .ok (.enter 59 args) w := enters_of Tryz.func59 (by kernel_rfl) rfl
  have hcon := AnyQ.slices_SortFunc Tryz.sortL 12 aggL sizL labC (fun _ => rfl) labC_one cmpN cmpSwo 59 #[] p0 0 c XS.toArray w eg (fun m os dk _ x y => compare_any x y _) hH hblk (by simp; omega)
  change Calls Tryz.prog 71 _ _ _ at hcon
  have hsz : XS.toArray.size = XS.length := by simp
  rw [hsz] at hcon
  refine hcon.mono ?_
  rintro e w' ⟨rfl, d', n, os, hp, hs, rfl⟩
  have hd : d'.size = XS.length := by rw [hp.1, hsz]
  have hd2 : d'.toList.toArray = d' := by simp
  have hF' : (Go.Sort.flatK labC 12 d').toList = d'.toList.flatMap labC := by have := flat_eq d'.toList; rw [hd2] at this; exact this
  have hFs' : (Go.Sort.flatK labC 12 d').size = XS.length * 12 := by simp [hd]
  refine ⟨rfl, d'.toList, ?_, ?_, ?_, but_srt _⟩
  · have h := hp.2.2
    rw [← hd] at h
    simp only [Array.extract_size] at h
    rw [hd, ← hsz, Array.extract_size] at h
    simpa using h
  · rw [List.pairwise_iff_getElem]
    intro i j hi hj hij
    have h := hs i j (Nat.zero_le _) hij (by simpa [hd] using hj)
    simp only [ltOf, decide_eq_false_iff_not] at h
    rw [getElem!_pos d' i (by simpa using hi), getElem!_pos d' j (by simpa using hj)] at h
    simpa using h
  · refine ⟨?_, .inr ⟨p0, c, Go.Sort.putCells id 0 (Go.Sort.flatK labC 12 d') cur, rfl, hbg, heap_srt _ hh, hnc, hcm, by simp [Go.Sort.putCells, hcs], ?_⟩⟩
    · rw [← hF', Array.length_toList, hFs']
    · rw [← hF', ← hFs']
      refine take_put _ _ ?_
      have h2 := congrArg List.length htake
      simp only [List.length_take, Array.length_toList] at h2
      have h3 : XS.length * 12 ≤ cur.size := by rw [hcs]; exact Nat.mul_le_mul_right _ hnc
      rw [hFs']; exact h3
end Go.Proofs.YtebiidfdokhpaabGreatDoor
