import Derived.Test.YtjkfihngkfphfaaDoorDkW
namespace Go.Proofs.YtjkfihngkfphfaaDoor
open Go.RowKit
set_option maxRecDepth 8000
theorem aggL (w : World) : (isAgg (Tryd.sortL_ren.t 24)).run Tryd.prog w = .ok true w := by
  have h : Tryd.sortL_ren.t 24 = 50 := by kernel_rfl
  rw [h]
  simp [isAgg, go_sem]
theorem sizL (w : World) : (Go.sizeOf (Tryd.sortL_ren.t 24)).run Tryd.prog w = .ok 12 w := by
  have h : Tryd.sortL_ren.t 24 = 50 := by kernel_rfl
  rw [h]
  simp [Go.sizeOf, go_sem]
  rfl
set_option maxHeartbeats 1000000 in
/-- slices.SortFunc: the same row, its labels in their order -/
theorem sortF_any (base p0 c : Nat) (XS : List ByteArray) (w : World) (hn : 0 < XS.length) (hle : XS.length ≤ 1000000) (hown : w.ownsRow base 50 12 (.slice (some ⟨p0, 0, none⟩) XS.length c) XS.length (XS.flatMap labC)) :
    Calls Tryd.prog 30 #[.slice (some ⟨p0, 0, none⟩) XS.length c, .func (.func 26) #[] #[]] w fun e w' => e = .returned (.tuple #[]) ∧ ∃ YS : List ByteArray, YS.Perm XS ∧ YS.Pairwise (fun a b => ¬ cmpN b a < 0) ∧ w'.ownsRow base 50 12 (.slice (some ⟨p0, 0, none⟩) XS.length c) XS.length (YS.flatMap labC) ∧ But (fun k => k = p0) w w' := by
  have hrow := hown
  obtain ⟨hl, ⟨hv, h0⟩ | ⟨g, cap, cur, hv, hbg, hh, hnc, hcm, hcs, htake⟩⟩ := hown
  · cases hv
  simp only [Value.slice.injEq, Option.some.injEq, Addr.mk.injEq, true_and, and_true] at hv
  obtain ⟨rfl, rfl⟩ := hv
  have hFs : (Go.Sort.flatK labC 12 XS.toArray).size = XS.length * 12 := by simp
  have hH : Go.Sort.HoldsK labC 12 w p0 0 XS.toArray := holds_row hh (by rw [hFs, flat_eq]; exact htake)
  have hblk : p0 < w.heap.size := (Array.getElem?_eq_some_iff.1 hh).1
  have eg : ∀ args w, (callFunc 26 args).run Tryd.prog w = .ok (.enter 26 args) w := enters_of Tryd.func26 (by kernel_rfl) rfl
  have hcon := AnyQ.slices_SortFunc Tryd.sortL 12 aggL sizL labC (fun _ => rfl) labC_one cmpN cmpSwo 26 #[] p0 0 c XS.toArray w eg (fun m os dk _ x y => compare_any x y _) hH hblk (by simp; omega)
  change Calls Tryd.prog 30 _ _ _ at hcon
  have hsz : XS.toArray.size = XS.length := by simp
  rw [hsz] at hcon
  refine hcon.mono ?_
  rintro e w' ⟨rfl, d', n, os, hp, hs, rfl⟩
  have hd : d'.size = XS.length := by rw [hp.1, hsz]
  have hd2 : d'.toList.toArray = d' := by simp
  have hF' : (Go.Sort.flatK labC 12 d').toList = d'.toList.flatMap labC := by have := flat_eq d'.toList; rw [hd2] at this; exact this
  have hFs' : (Go.Sort.flatK labC 12 d').size = XS.length * 12 := by simp [hd]
  refine ⟨rfl, d'.toList, ?_, ?_, ?_, but_srt _⟩
  · have h := hp.2.2
    rw [← hd] at h
    simp only [Array.extract_size] at h
    rw [hd, ← hsz, Array.extract_size] at h
    simpa using h
  · rw [List.pairwise_iff_getElem]
    intro i j hi hj hij
    have h := hs i j (Nat.zero_le _) hij (by simpa [hd] using hj)
    simp only [ltOf, decide_eq_false_iff_not] at h
    rw [getElem!_pos d' i (by simpa using hi), getElem!_pos d' j (by simpa using hj)] at h
    simpa using h
  · refine ⟨?_, .inr ⟨p0, c, Go.Sort.putCells id 0 (Go.Sort.flatK labC 12 d') cur, rfl, hbg, heap_srt _ hh, hnc, hcm, by simp [Go.Sort.putCells, hcs], ?_⟩⟩
    · rw [← hF', Array.length_toList, hFs']
    · rw [← hF', ← hFs']
      refine take_put _ _ ?_
      have h2 := congrArg List.length htake
      simp only [List.length_take, Array.length_toList] at h2
      have h3 : XS.length * 12 ≤ cur.size := by rw [hcs]; exact Nat.mul_le_mul_right _ hnc
      rw [hFs']; exact h3
end Go.Proofs.YtjkfihngkfphfaaDoor
