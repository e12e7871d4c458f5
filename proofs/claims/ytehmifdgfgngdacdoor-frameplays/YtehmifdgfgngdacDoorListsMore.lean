import Derived.Test.YtehmifdgfgngdacDoorScanAny
import Derived.Test.YtehmifdgfgngdacDoorLists
import Derived.Test.YtehmifdgfgngdacDoorLogMath
namespace Go.Proofs.YtehmifdgfgngdacDoor
open Go.RowKit
set_option maxRecDepth 8000

theorem OwnL.lists {base : Nat} {w : World} {q : Option Addr} {n c : Nat} {vs : List (Option Addr × Nat)} {zss : List (List Int)} (h : OwnL base w (.slice q n c) vs zss) (hb : ∀ z ∈ zss, z.length ≤ 140737488355328) : LBytes w q (fun i => vs.getD i (none, 0)) zss := by
  obtain ⟨p, c', hv, _, _, hc⟩ := h.view
  simp only [Value.slice.injEq] at hv
  obtain ⟨rfl, rfl, rfl⟩ := hv
  refine ⟨fun hp => ?_, fun i hi => ⟨h.bytes i hi, fun hn => ?_, (h.each i hi).cap.1, hb _ (getD_mem_l zss i hi)⟩⟩
  · obtain ⟨g, rfl, hlt, _⟩ := hc 0 hp
    refine ⟨g, 0, rfl, hlt, fun i hi => ?_⟩
    obtain ⟨g', he, _, hcell⟩ := hc i hi
    cases he
    rw [Nat.zero_add]
    exact hcell
  · have := (h.each i hi).nil hn
    exact ⟨by rw [this.1]; rfl, this.2⟩

theorem scanN_short (zs : List Int) (k : Nat) : ∀ z ∈ (scanN zs k).1, z.length ≤ 32768 := by
  induction k with
  | zero => intro z hz; cases hz
  | succ k ih =>
    intro z hz
    by_cases h : (scanN zs k).2 < zs.length ∧ (unw (zs.drop (scanN zs k).2)).1 = 0
    · rw [scanN_go h.1 h.2] at hz
      rcases List.mem_append.1 hz with h1 | h1
      · exact ih z h1
      · rw [List.mem_singleton.1 h1]; exact (unw_fit _ h.2).2
    · have hs := scanN_stuck h 1
      rw [hs] at hz
      exact ih z hz
theorem scanL_short (zs : List Int) : ∀ z ∈ scanL zs, z.length ≤ 32768 := scanN_short zs _

theorem scanN_len (zs : List Int) (k : Nat) : 8 * (scanN zs k).1.length ≤ (scanN zs k).2 ∧ (scanN zs k).2 ≤ zs.length := by
  induction k with
  | zero => exact ⟨by simp [scanN], Nat.zero_le _⟩
  | succ k ih =>
    by_cases h : (scanN zs k).2 < zs.length ∧ (unw (zs.drop (scanN zs k).2)).1 = 0
    · rw [scanN_go h.1 h.2]
      have hf := (unw_fit _ h.2).1
      rw [List.length_drop] at hf
      simp only [List.length_append, List.length_singleton]
      omega
    · have hs := scanN_stuck h 1
      rw [hs]
      exact ih
theorem scanL_len (zs : List Int) : (scanL zs).length ≤ zs.length := by have := scanN_len zs (zs.length + 1); unfold scanL; omega
theorem scanP_le (zs : List Int) : scanP zs ≤ zs.length := (scanN_len zs (zs.length + 1)).2
end Go.Proofs.YtehmifdgfgngdacDoor
