import Derived.Test.YtpldokahoamdpaaPack32
namespace Go.Proofs.Ytpldokahoamdpaa
open Go.RowKit
set_option maxRecDepth 8000

set_option maxHeartbeats 4000000 in
theorem flow_of (base : Nat) (w : World) (R : RS) (hR : Rm base w R) (hp5 : R.F 5 = .slice none 0 0) (hp6 : R.F 6 = .slice none 0 0) (hp8 : R.F 8 = .slice none 0 0) :
    Calls Try.prog 65 #[.pointer (some ⟨R.rb, 0, none⟩)] w fun e w' => e = .returned (.bool true) ∧ Below w.heap.size w w' := by
  have b5 := hR.box.cell 5
  simp at b5
  rw [hp5] at b5
  have b6 := hR.box.cell 6
  simp at b6
  rw [hp6] at b6
  have b8 := hR.box.cell 8
  simp at b8
  rw [hp8] at b8
  clear hR hp5 hp6 hp8
  go_enter Try.func65, Try.ntmps65
  go_wp2_with fail
  go_loopw [3] (fun x wr => ∃ k : Nat, k ≤ 40 ∧ x = .int .i64 k ∧ wr = w) (fun x _ => 40 - (intOf x).toNat)
  case atStart => exact ⟨0, by omega, rfl, rfl⟩
  case round =>
    obtain ⟨k, hk, rfl, rfl⟩ := hrel
    by_cases hlt : k < 40
    · have hlt' : (k : Int) < 40 := by omega
      go_wp2_with fail
      refine wp_loop_rounds 1 ?_
      rw [rounds_succ]
      go_wp2_with fail
      refine wp_loop_rounds 1 ?_
      rw [rounds_succ]
      go_wp2_with fail
      refine wp_loop_rounds 1 ?_
      rw [rounds_succ]
      go_wp2
      go_roundw
      case rel => exact ⟨k + 1, by omega, by go_num, by first | rfl | trivial⟩
      case measure => simp [intOf]; omega
    · obtain rfl : k = 40 := by omega
      go_wp2
      go_ret
      exact ⟨rfl, Below.refl _ _⟩
theorem flow_any (base : Nat) (w : World) (R : RS) (hR : Rm base w R) (hp : R.plainV) :
    Calls Try.prog 65 #[.pointer (some ⟨R.rb, 0, none⟩)] w fun e w' => e = .returned (.bool true) ∧ Below w.heap.size w w' :=
  flow_of base w R hR (hp 5 (by omega) (by omega) (by omega)) (hp 6 (by omega) (by omega) (by omega)) (hp 8 (by omega) (by omega) (by omega))
set_option maxHeartbeats 4000000 in
theorem lists_any (base : Nat) (w : World) (R : RS) (hR : Rm base w R) (hp : R.F 7 = .slice none 0 0) :
    Calls Try.prog 66 #[.pointer (some ⟨R.rb, 0, none⟩)] w fun e w' => e = .returned (.bool true) ∧ Below w.heap.size w w' := by
  have b7 := hR.box.cell 7
  simp at b7
  rw [hp] at b7
  clear hR hp
  go_enter Try.func66, Try.ntmps66
  go_wp2_with fail
  go_loopw [3] (fun x wr => ∃ k : Nat, k ≤ 40 ∧ x = .int .i64 k ∧ wr = w) (fun x _ => 40 - (intOf x).toNat)
  case atStart => exact ⟨0, by omega, rfl, rfl⟩
  case round =>
    obtain ⟨k, hk, rfl, rfl⟩ := hrel
    by_cases hlt : k < 40
    · have hlt' : (k : Int) < 40 := by omega
      go_wp2_with fail
      refine wp_loop_rounds 1 ?_
      rw [rounds_succ]
      go_wp2
      go_roundw
      case rel => exact ⟨k + 1, by omega, by go_num, by first | rfl | trivial⟩
      case measure => simp [intOf]; omega
    · obtain rfl : k = 40 := by omega
      go_wp2
      go_ret
      exact ⟨rfl, Below.refl _ _⟩
end Go.Proofs.Ytpldokahoamdpaa

namespace Go.Proofs.Ytpldokahoamdpaa
open Go.RowKit
set_option maxRecDepth 8000
/-- the mark of a list that the room keeps in field i -/
theorem mark_of {base : Nat} {w : World} {R : RS} (hR : Rm base w R) {i : Nat} (hi : i < 10) {p : Option Addr} {c q : Nat} (hF : R.F i = .slice p (R.L i).length c) (hq : q < (R.L i).length) {k : Nat} (hk : k < rmCnt i) :
    ∃ gb xg d xc, p = some ⟨gb, 0, none⟩ ∧ d ≤ 281474976710656 ∧ gb < w.heap.size ∧ xg < w.heap.size ∧ w.cell? ⟨gb, q, none⟩ = some (.slice (some ⟨xg, 0, none⟩) (d + rmCnt i) xc) ∧ ∀ r u, r < rmSize i → (rmMark i k)[r]? = some u → w.cell? ⟨xg, (d + k) * rmSize i + r, none⟩ = some u := by
  have hrow := hR.row i hi
  have hlt := hrow.lt
  obtain ⟨_, ⟨hv, h0⟩ | ⟨gb, cap, cur, hv, hbg, hh, hnc, _⟩⟩ := id hrow
  · omega
  · have hm := hR.mark i hi (R.L i)[q] (List.getElem_mem hq)
    obtain ⟨⟨⟨h1, h1b⟩, h2⟩, h3, _⟩ := hm
    have hc := hrow.cells (g := gb) (by rw [hv]; rfl) q (R.L i)[q].val (by simp [List.getElem?_eq_getElem hq])
    rw [Go.WideShapes.add_plain, Nat.zero_add] at hc
    obtain ⟨d, hd⟩ : ∃ d, (R.L i)[q].n = d + rmCnt i := ⟨(R.L i)[q].n - rmCnt i, by omega⟩
    rw [hF] at hv
    simp only [Value.slice.injEq] at hv
    refine ⟨gb, (R.L i)[q].g, d, (R.L i)[q].c, hv.1, by omega, (hlt gb (by rw [hF, hv.1]; rfl)).2, h3, ?_, fun r u hr hu => ?_⟩
    · rw [hc, ← hd]; rfl
    · have h := h2 k hk r hr
      rw [hd, Nat.add_sub_cancel] at h
      rw [h]
      exact hu
end Go.Proofs.Ytpldokahoamdpaa
