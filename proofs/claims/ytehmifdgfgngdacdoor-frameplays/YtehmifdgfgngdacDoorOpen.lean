import Derived.Test.YtehmifdgfgngdacDoorOwn
import Derived.ProofKit
import Derived.OpenShut
import Derived.ChangeOld
import Derived.SizedLaws
import Derived.Deep.DeepHandedRow
import Derived.Lib.LaidTab
namespace Go.Proofs.YtehmifdgfgngdacDoor
open Go.ChangeShapes Go.WideShapes Go.ChangeAt Go.RowKit
set_option maxRecDepth 8000

theorem own : ownKnob Tryd.prog.godebug = none := by kernel_rfl
theorem laidOut : laidOutB Tryd.prog = true := by kernel_rfl
def tabName : String := Rows.framePlaysRow.named.headD Rows.framePlaysRow.func
theorem gTab : Tryd.prog.globalNamed tabName = some 0 := by kernel_rfl
theorem gTabType : (Tryd.prog.globals[0]?).map (·.type) = some 58 := by kernel_rfl
theorem cellsTab : Tryd.prog.cellsOf 58 = 16 := by kernel_rfl
theorem cellsU32 : Tryd.prog.cellsOf 23 = 1 := by kernel_rfl
theorem cells5 : Tryd.prog.cellsOf 5 = 1 := by kernel_rfl
theorem bytes5 : Tryd.prog.bytesOf 5 = 1 := by kernel_rfl
def tabInts : List Int := [0, 498536548, 997073096, 651767980, 1994146192, 1802195444, 1303535960, 1342533948, 3988292384, 4027552580, 3604390888, 3412177804, 2607071920, 2262029012, 2685067896, 3183342108]
theorem tabInts_at : ∀ i, i < 16 → tabInts.getD i 0 = (Crc.tabAt i : Nat) := by decide

/-- WHAT THE ROW's LIST GIVES: the table's cells hold its sixteen numbers. -/
theorem tab_of_laid {W : World} (h : laidMetH Tryd.prog [(tabName, Rows.laid_eddy_frame_halves)] W) : Tab W := by
  have ht : Lib.TabIs Tryd.prog W tabName .u32 tabInts :=
    Lib.tabIs_of_head (rest := []) gTab gTabType Tryd.underlying58 Tryd.underlying23 cellsU32 cellsTab h
  have hc : ∀ i, i < 16 → W.cell? ⟨0, i, none⟩ = some (.int .u32 (Crc.tabAt i : Nat)) := by
    intro i hi
    have := ht.cell gTab i (by simpa [tabInts] using hi)
    rw [tabInts_at i hi] at this
    exact this
  exact ⟨cell_lt (hc 0 (by omega)), hc⟩

/-- WHAT A SLICE OF BYTES THAT CAME IN IS -/
theorem open_bytes {H : Type} {enc : TypeId × Value → H} {W : World} {base : Nat} {v : Value} {d : DataW H} {p : List MemPlace}
    (hv : Value.okWide Tryd.prog W .any base 24 v) (hd : DataW.Trod enc Tryd.prog W 0 (fun _ => true) true 24 v d p)
    (hw : ∀ elems spare, d = .slice elems spare → (elems.length + spare.length) * Tryd.prog.bytesOf 5 ≤ reachBytes) :
    ∃ a n c zs, v = .slice a n c ∧ zs.length = n ∧ Bytes W a zs ∧ (a = none → n = 0 ∧ c = 0) ∧ n ≤ c ∧ c ≤ 140737488355328 := by
  obtain ⟨a, len, cap, rfl⟩ := okWide_slice Tryd.underlying24 hv
  obtain ⟨fuel, hf⟩ := hd
  rcases open_ints Tryd.underlying24 Tryd.underlying5 cells5 hf with ⟨hcs, _⟩ | ⟨x, l, c, zs, hcs, _, hl, hm, hz, hx, hcell, hwz⟩
  · simp [Value.cells] at hcs
    obtain ⟨rfl, rfl, rfl⟩ := hcs
    exact ⟨none, 0, 0, [], rfl, rfl, ⟨fun h => absurd h (by simp), fun z hz => by cases hz⟩, fun _ => ⟨rfl, rfl⟩, Nat.le_refl _, by omega⟩
  · simp [Value.cells] at hcs
    obtain ⟨rfl, rfl, rfl⟩ := hcs
    have hz' : zs.length = cap := by simpa using hz
    simp only [Prod.mk.injEq] at hx
    have hr := hw _ _ hx.1
    rw [bytes5] at hr
    simp only [lits, List.length_map, List.length_take, List.length_drop, reachBytes] at hr
    refine ⟨some x, len, cap, zs.take len, rfl, (by simp; omega), ⟨fun h => ?_, fun z hz => ?_⟩, (fun h => by cases h), hl, (by omega)⟩
    · have hpos : 0 < zs.length := by simp at h; omega
      obtain ⟨b, o, rfl, hc⟩ := ints_at hcell hpos
      refine ⟨b, o, rfl, cell_lt (hc 0 hpos), fun i hi => ?_⟩
      have hi' : i < len ∧ i < zs.length := by simp at hi; omega
      rw [hc i hi'.2]
      simp [List.getD_eq_getElem?_getD, hi'.1]
    · have := bounds_u8 (hwz z (List.mem_of_mem_take hz)); omega

/-- FOR THE WITNESS: a world, the table (block 0) holding what its initialiser lays. -/
def tabObj : Obj → Obj
  | .cells _ t frozen => .cells #[.int .u32 0, .int .u32 498536548, .int .u32 997073096, .int .u32 651767980, .int .u32 1994146192, .int .u32 1802195444, .int .u32 1303535960, .int .u32 1342533948, .int .u32 3988292384, .int .u32 4027552580, .int .u32 3604390888, .int .u32 3412177804, .int .u32 2607071920, .int .u32 2262029012, .int .u32 2685067896, .int .u32 3183342108] t frozen
  | o => o
def layTab (w : World) : World := { w with heap := w.heap.modify 0 tabObj }
end Go.Proofs.YtehmifdgfgngdacDoor
