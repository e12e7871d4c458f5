import Derived.Test.YtoddnbmfijnkmaaDoorRows
import Derived.WalkKit
import Derived.WalkSpells
import Derived.WalkLawsBesides
import Derived.Deep.QuietTactic
import Derived.BigQuiet
namespace Go.Proofs.YtoddnbmfijnkmaaDoor
open Go.RowKit
set_option maxRecDepth 8000

/-- the numbers of both tables, seven a kind -/
def tabR : List (List Int) := [[-1,-1,-1,-1,0,0,0],[0,0,1,1,0,3,0],[1,1,1,1,0,0,2],[1,1,1,1,0,0,1],[1,1,1,1,0,0,2],[1,4,1,1,0,0,0],[1,1,1,4,0,0,1],[1,1,1,4,0,0,0],[2,2,1,1,0,0,0],[1,1,1,1,1,6,0],[1,1,1,1,0,0,0],[2,2,1,1,0,0,0],[1,1,2,2,0,9,1],[1,1,0,0,0,0,0]]
def atR (k j : Nat) : Int := (tabR.getD k []).getD j 0
structure Kinds (w : World) : Prop where
  ref : ∀ k j, k < 14 → j < 7 → w.cell? ⟨0, k * 7 + j, none⟩ = some (.int .i64 (atR k j))
  own : ∀ k j, 0 < k → k < 14 → j < 7 → w.cell? ⟨1, k * 7 + j, none⟩ = some (.int .i64 (atR k j))


theorem hid {p : Prop} (h : p) : Hid p := h
theorem below_dn {B : Nat} {a w : World} (h : Below B a w) (n : Nat) : Below B a (w.drewN n) := ⟨h.os, h.tape, h.output, h.size, h.block⟩

theorem needsOf_any (k : Nat) (w : World) (hk : 0 < k ∧ k < 14) (h : Kinds w) : Calls Tryd.prog 6 #[.int .i64 (k : Int)] w fun e w' => Below w.heap.size w w' ∧ e = .returned (.tuple #[.agg #[.int .i64 (atR k 0), .int .i64 (atR k 1), .int .i64 (atR k 2), .int .i64 (atR k 3), .int .i64 (atR k 4), .int .i64 (atR k 5), .int .i64 (atR k 6)], .bool true]) := by
  obtain ⟨h1, h2⟩ := hk
  have g1 : ¬ ((k : Int) < 1) := by omega
  have g2 : ¬ ((13 : Int) < (k : Int)) := by omega
  have g3 : 0 ≤ (k : Int) ∧ (k : Int) < 14 := by omega
  have c0 : w.cell? ⟨1, k * 7, none⟩ = some (.int .i64 (atR k 0)) := h.own k 0 h1 h2 (by omega)
  have hlt : 1 < w.heap.size := by
    rcases Nat.lt_or_ge 1 w.heap.size with h1 | h1
    · exact h1
    · simp [World.cell?, Array.getElem?_eq_none h1] at c0
  have hne : ¬ 1 = w.heap.size := by omega
  have hne' : ¬ w.heap.size = 1 := by omega
  have c1 := h.own k 1 h1 h2 (by omega)
  have c2 := h.own k 2 h1 h2 (by omega)
  have c3 := h.own k 3 h1 h2 (by omega)
  have c4 := h.own k 4 h1 h2 (by omega)
  have c5 := h.own k 5 h1 h2 (by omega)
  have c6 := h.own k 6 h1 h2 (by omega)
  clear h
  go_enter Tryd.func6, Tryd.ntmps6
  go_wp2
  exact bodyPost_ret (v := .tuple #[.agg #[.int .i64 (atR k 0), .int .i64 (atR k 1), .int .i64 (atR k 2), .int .i64 (atR k 3), .int .i64 (atR k 4), .int .i64 (atR k 5), .int .i64 (atR k 6)], .bool true]) (by simp [results, Tryd.results6, go_sem]) rfl ⟨(Below.refl _ _).alloc (Nat.le_refl _) _, rfl⟩

theorem needsOf_none (x : Int) (w : World) (hx : x < 1 ∨ 13 < x) : Calls Tryd.prog 6 #[.int .i64 x] w fun e w' => Below w.heap.size w w' ∧ e = .returned (.tuple #[.agg #[.int .i64 0, .int .i64 0, .int .i64 0, .int .i64 0, .int .i64 0, .int .i64 0, .int .i64 0], .bool false]) := by
  rcases hx with h | h
  · go_enter Tryd.func6, Tryd.ntmps6
    go_wp2
    exact bodyPost_ret (v := .tuple #[.agg #[.int .i64 0, .int .i64 0, .int .i64 0, .int .i64 0, .int .i64 0, .int .i64 0, .int .i64 0], .bool false]) (by simp [results, Tryd.results6, go_sem]) rfl ⟨(Below.refl _ _).alloc (Nat.le_refl _) _, rfl⟩
  · have g1 : ¬ x < 1 := by omega
    go_enter Tryd.func6, Tryd.ntmps6
    go_wp2
    exact bodyPost_ret (v := .tuple #[.agg #[.int .i64 0, .int .i64 0, .int .i64 0, .int .i64 0, .int .i64 0, .int .i64 0, .int .i64 0], .bool false]) (by simp [results, Tryd.results6, go_sem]) rfl ⟨(Below.refl _ _).alloc (Nat.le_refl _) _, rfl⟩

/-- what Ports says -/
def prt (x : Int) (j : Nat) : Int := if 1 ≤ x ∧ x ≤ 13 then atR x.toNat j else -1

theorem ports_any (x : Int) (w : World) (h : Kinds w) : Calls Tryd.prog 4 #[.int .i64 x] w fun e w' => Below w.heap.size w w' ∧ e = .returned (.tuple #[.int .i64 (prt x 0), .int .i64 (prt x 1), .int .i64 (prt x 2), .int .i64 (prt x 3)]) := by
  unfold prt
  by_cases hx : 1 ≤ x ∧ x ≤ 13
  · obtain ⟨k, rfl⟩ := Int.eq_ofNat_of_zero_le (a := x) (by omega)
    rw [if_pos hx, if_pos hx, if_pos hx, if_pos hx]
    have HN := hid (needsOf_any k w ⟨by omega, by omega⟩ h)
    clear h
    rw [show ((k : Int)).toNat = k from rfl]
    go_enter Tryd.func4, Tryd.ntmps4
    go_wp2_with (go_at_call 6; refine HN.out.mono ?_; rintro e w1 ⟨hb, rfl⟩)
    go_big_quiet (fail)
    go_wp2
    exact bodyPost_ret (v := .tuple #[.int .i64 (atR k 0), .int .i64 (atR k 1), .int .i64 (atR k 2), .int .i64 (atR k 3)]) (by simp [results, Tryd.results4, go_sem]) rfl ⟨below_dn (hb.alloc hb.size _) _, rfl⟩
  · rw [if_neg hx, if_neg hx, if_neg hx, if_neg hx]
    have HN := hid (needsOf_none x w (by omega))
    clear h
    go_enter Tryd.func4, Tryd.ntmps4
    go_wp2_with (go_at_call 6; refine HN.out.mono ?_; rintro e w1 ⟨hb, rfl⟩)
    refine bodyPost_ret (v := .tuple #[.int .i64 (-1), .int .i64 (-1), .int .i64 (-1), .int .i64 (-1)]) (by simp [results, Tryd.results4, go_sem]) rfl ⟨hb.alloc hb.size _, rfl⟩

theorem ref_any (x : Int) (w : World) (h : Kinds w) : Calls Tryd.prog 5 #[.int .i64 x] w fun e w' => Below w.heap.size w w' ∧ e = .returned (.tuple #[.int .i64 (prt x 0), .int .i64 (prt x 1), .int .i64 (prt x 2), .int .i64 (prt x 3)]) := by
  unfold prt
  by_cases hx : 1 ≤ x ∧ x ≤ 13
  · obtain ⟨k, rfl⟩ := Int.eq_ofNat_of_zero_le (a := x) (by omega)
    rw [if_pos hx, if_pos hx, if_pos hx, if_pos hx]
    rw [show ((k : Int)).toNat = k from rfl]
    have g1 : ¬ ((k : Int) < 1) := by omega
    have g2 : ¬ ((13 : Int) < (k : Int)) := by omega
    have g3 : 0 ≤ (k : Int) ∧ (k : Int) < 14 := by omega
    have c0 : w.cell? ⟨0, k * 7, none⟩ = some (.int .i64 (atR k 0)) := h.ref k 0 (by omega) (by omega)
    have c1 := h.ref k 1 (by omega) (by omega)
    have c2 := h.ref k 2 (by omega) (by omega)
    have c3 := h.ref k 3 (by omega) (by omega)
    clear h
    go_enter Tryd.func5, Tryd.ntmps5
    go_wp2
    go_big_quiet (fail)
    go_wp2
    exact bodyPost_ret (v := .tuple #[.int .i64 (atR k 0), .int .i64 (atR k 1), .int .i64 (atR k 2), .int .i64 (atR k 3)]) (by simp [results, Tryd.results5, go_sem]) rfl ⟨below_dn (Below.refl _ _) _, rfl⟩
  · rw [if_neg hx, if_neg hx, if_neg hx, if_neg hx]
    clear h
    by_cases h1 : x < 1
    · go_enter Tryd.func5, Tryd.ntmps5
      go_wp2
      exact bodyPost_ret (v := .tuple #[.int .i64 (-1), .int .i64 (-1), .int .i64 (-1), .int .i64 (-1)]) (by simp [results, Tryd.results5, go_sem]) rfl ⟨Below.refl _ _, rfl⟩
    · have h2 : 13 < x := by omega
      go_enter Tryd.func5, Tryd.ntmps5
      go_wp2
      exact bodyPost_ret (v := .tuple #[.int .i64 (-1), .int .i64 (-1), .int .i64 (-1), .int .i64 (-1)]) (by simp [results, Tryd.results5, go_sem]) rfl ⟨Below.refl _ _, rfl⟩

theorem Kinds.on {w w' : World} (h : Kinds w) (hb : Below w.heap.size w w') : Kinds w' := by
  have hl : ∀ {a : Addr} {v : Value}, w.cell? a = some v → a.block < w.heap.size := by
    intro a v h
    rcases Nat.lt_or_ge a.block w.heap.size with h1 | h1
    · exact h1
    · simp [World.cell?, Array.getElem?_eq_none h1] at h
  exact ⟨fun k j h1 h2 => (hb.cell (hl (h.ref k j h1 h2))).trans (h.ref k j h1 h2), fun k j h0 h1 h2 => (hb.cell (hl (h.own k j h0 h1 h2))).trans (h.own k j h0 h1 h2)⟩

theorem ports_walk (x : Int) (w : World) (h : Kinds w) : Calls Tryd.prog 3 #[.int .i64 x] w fun e w' => e = .returned (.bool true) ∧ Below w.heap.size w w' := by
  have H := hid h
  clear h
  go_enter Tryd.func3, Tryd.ntmps3
  go_wp2_with fail
  refine (ports_any x w H.out).mono ?_
  rintro e w1 ⟨hb1, rfl⟩
  have HB1 := hid hb1
  clear hb1
  go_wp2_with fail
  refine (ref_any x w1 (H.out.on HB1.out)).mono ?_
  rintro e w2 ⟨hb2, rfl⟩
  have HB2 := hid (HB1.out.trans (hb2.mono HB1.out.size))
  clear hb2
  go_wp2_with fail
  refine (ports_any 8 w2 (H.out.on HB2.out)).mono ?_
  rintro e w3 ⟨hb3, rfl⟩
  have HB3 := hid (HB2.out.trans (hb3.mono HB2.out.size))
  clear hb3
  rw [show prt 8 0 = 2 from rfl, show prt 8 1 = 2 from rfl, show prt 8 2 = 1 from rfl, show prt 8 3 = 1 from rfl]
  go_wp2
  go_ret
  exact ⟨rfl, HB3.out⟩
end Go.Proofs.YtoddnbmfijnkmaaDoor
