import Derived.Test.YtehmifdgfgngdacDoorScan
import Derived.Test.YtehmifdgfgngdacDoorFrames
import Derived.Test.YtehmifdgfgngdacDoorSame
namespace Go.Proofs.YtehmifdgfgngdacDoor
open Go.RowKit
set_option maxRecDepth 8000

/-- the list's value, and what its cells hold -/
theorem OwnL.view {base : Nat} {w : World} {v : Value} {vs : List (Option Addr × Nat)} {zss : List (List Int)} (h : OwnL base w v vs zss) :
    ∃ p c, v = .slice p zss.length c ∧ (p = none → zss.length = 0 ∧ c = 0) ∧ zss.length ≤ c ∧ (∀ i, i < zss.length → ∃ g, p = some ⟨g, 0, none⟩ ∧ g < w.heap.size ∧ w.cell? ⟨g, i, none⟩ = some (.slice (vs.getD i (none, 0)).1 (zss.getD i []).length (vs.getD i (none, 0)).2)) := by
  obtain ⟨hx, ⟨hv, h0⟩ | ⟨g, cap, cur, hv, hb, hh, hn, hm, hs, ht⟩⟩ := id h.own
  · exact ⟨none, 0, by rw [hv, h0], fun _ => ⟨h0, rfl⟩, by omega, fun i hi => absurd hi (by omega)⟩
  · refine ⟨_, cap, hv, (fun he => by cases he), hn, fun i hi => ⟨g, rfl, ?_, ?_⟩⟩
    · rcases Nat.lt_or_ge g w.heap.size with h1 | h1
      · exact h1
      · rw [Array.getElem?_eq_none h1] at hh; cases hh
    · have ho := h.own
      rw [hv] at ho
      rw [World.ownsRow.cellAt ho i (by omega), List.getElem?_zipWith]
      have h1 : i < vs.length := by rw [h.len]; exact hi
      simp [List.getElem?_eq_getElem h1, List.getElem?_eq_getElem hi, slv, List.getD_eq_getElem?_getD]

theorem OwnL.bytes {base : Nat} {w : World} {v : Value} {vs : List (Option Addr × Nat)} {zss : List (List Int)} (h : OwnL base w v vs zss) (i : Nat) (hi : i < zss.length) : Bytes w (vs.getD i (none, 0)).1 (zss.getD i []) := (h.each i hi).bytes

theorem scan_any (p : Option Addr) (n c : Nat) (zs : List Int) (w : World) (hn : zs.length = n) (hB : Bytes w p zs) (hc : n ≤ c) (hnm : n ≤ 1000000000) (hT : Tab w) :
    Calls Tryd.prog 31 #[.slice p n c] w fun e w' => ∃ q c' vs, e = .returned (.tuple #[.slice q (scanL zs).length c', .int .i64 (scanP zs : Nat), .int .i64 (scanE zs : Nat)]) ∧ OwnL w.heap.size w' (.slice q (scanL zs).length c') vs (scanL zs) ∧ Below w.heap.size w w' := by
  by_cases h0 : n = 0
  · subst h0
    obtain rfl : zs = [] := List.eq_nil_of_length_eq_zero hn
    have e1 : scanL [] = [] := rfl
    have e2 : scanP [] = 0 := rfl
    have e3 : scanE [] = 0 := rfl
    refine (scan_none p c w).mono ?_
    rintro e w' ⟨rfl, rfl⟩
    rw [e1, e2, e3]
    exact ⟨none, 0, [], rfl, OwnL.nil _ _, Below.refl _ _⟩
  · obtain ⟨b, o, rfl, _, _⟩ := hB.at_ (by omega)
    refine (scan_pos b o n c zs w hn hB hc hnm hT).mono ?_
    rintro e w' ⟨v, vs, rfl, hL, hb⟩
    obtain ⟨q, c', rfl, _⟩ := hL.view
    exact ⟨q, c', vs, rfl, hL, hb⟩

/-- what is read stays read -/
theorem scanN_prefix (zs : List Int) (k j : Nat) : ∃ r, (scanN zs (k + j)).1 = (scanN zs k).1 ++ r := by
  induction j with
  | zero => exact ⟨[], by simp⟩
  | succ j ih =>
    obtain ⟨r, hr⟩ := ih
    by_cases h : (scanN zs (k + j)).2 < zs.length ∧ (unw (zs.drop (scanN zs (k + j)).2)).1 = 0
    · have hg := scanN_go h.1 h.2
      rw [show k + (j + 1) = k + j + 1 by omega, hg]
      exact ⟨r ++ [(unw (zs.drop (scanN zs (k + j)).2)).2], by rw [hr, List.append_assoc]⟩
    · have hs := scanN_stuck h 1
      rw [show k + (j + 1) = k + j + 1 by omega, hs]
      exact ⟨r, hr⟩
theorem scanL_prefix (zs : List Int) (k : Nat) (hk : k ≤ zs.length + 1) : ∃ r, scanL zs = (scanN zs k).1 ++ r := by
  have h := scanN_prefix zs k (zs.length + 1 - k)
  rw [show k + (zs.length + 1 - k) = zs.length + 1 by omega] at h
  exact h
theorem scanL_at {zs : List Int} {k : Nat} {zss : List (List Int)} {body : List Int} {pos : Nat} (hk : k + 1 ≤ zs.length + 1) (h : scanN zs (k + 1) = (zss ++ [body], pos)) (hl : zss.length = k) : k < (scanL zs).length ∧ (scanL zs).getD k [] = body := by
  obtain ⟨r, hr⟩ := scanL_prefix zs (k + 1) hk
  rw [h] at hr
  have hr : scanL zs = zss ++ [body] ++ r := hr
  rw [hr]
  subst hl
  refine ⟨by simp, ?_⟩
  rw [List.getD_eq_getElem?_getD, List.append_assoc, List.getElem?_append_right (Nat.le_refl _)]
  simp

theorem bytes_of_block {w : World} {g : Nat} {zs : List Int} {t : TypeId} {f : Nat × Nat} (h : w.heap[g]? = some (.cells (zs.map (Value.int .u8)).toArray t f)) (hb : ∀ z ∈ zs, 0 ≤ z ∧ z < 256) : Bytes w (some ⟨g, 0, none⟩) zs := by
  refine ⟨fun _ => ⟨g, 0, rfl, ?_, fun i hi => ?_⟩, hb⟩
  · rcases Nat.lt_or_ge g w.heap.size with h1 | h1
    · exact h1
    · rw [Array.getElem?_eq_none h1] at h; cases h
  · have := block_cells h i (.int .u8 (zs.getD i 0)) (by simp [List.getElem?_eq_getElem hi, List.getD_eq_getElem?_getD])
    rw [Go.WideShapes.add_plain] at this
    exact this
theorem eight_bytes {w : World} : Bytes (w.alloc (.cells #[.int .u8 0, .int .u8 0, .int .u8 255, .int .u8 255, .int .u8 0, .int .u8 0, .int .u8 0, .int .u8 0] 5)) (some ⟨w.heap.size, 0, none⟩) [0, 0, 255, 255, 0, 0, 0, 0] :=
  bytes_of_block (zs := [0, 0, 255, 255, 0, 0, 0, 0]) (heap_new w _) (by decide)

theorem unw_eight : unw [0, 0, 255, 255, 0, 0, 0, 0] = (0, []) := by decide

set_option maxHeartbeats 400000 in
theorem unwraps_any (w : World) (hT : Tab w) : Calls Tryd.prog 29 #[] w fun e w' => e = .returned (.bool true) ∧ Below w.heap.size w w' := by
  have H : Hid (Calls Tryd.prog 26 #[.slice (some ⟨w.heap.size, 0, none⟩) 8 8] (w.alloc (.cells #[.int .u8 0, .int .u8 0, .int .u8 255, .int .u8 255, .int .u8 0, .int .u8 0, .int .u8 0, .int .u8 0] 5)) fun e w' => ∃ a c', e = .returned (.tuple #[.slice a 0 c', .int .i64 8, .int .i64 0]) ∧ Below w.heap.size w w') := by
    have hb : Below w.heap.size w (w.alloc (.cells #[.int .u8 0, .int .u8 0, .int .u8 255, .int .u8 255, .int .u8 0, .int .u8 0, .int .u8 0, .int .u8 0] 5)) := (Below.refl _ _).alloc (Nat.le_refl _) _
    have h := unwrap_any (some ⟨w.heap.size, 0, none⟩) 8 8 _ _ rfl eight_bytes (by omega) (by omega) (hT.later hb)
    have hs : unwSize [0, 0, 255, 255, 0, 0, 0, 0] = 8 := by unfold unwSize; rw [unw_eight]; rfl
    rw [hs, unw_eight] at h
    refine h.mono ?_
    rintro e w' ⟨a, c', rfl, _, hb2⟩
    exact ⟨a, c', rfl, hb.trans (hb2.mono (by simp))⟩
  go_enter Tryd.func29, Tryd.ntmps29
  go_wp2_with (first | (go_at_call 26; refine H.out.mono ?_; rintro e w1 ⟨a, c', rfl, hb⟩) | (go_at_call 24; refine (num_any _ _).mono ?_; rintro e w' ⟨rfl, rfl⟩))
  go_ret
  exact ⟨rfl, hb⟩
end Go.Proofs.YtehmifdgfgngdacDoor
