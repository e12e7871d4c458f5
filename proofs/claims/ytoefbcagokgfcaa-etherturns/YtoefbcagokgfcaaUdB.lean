import Derived.Test.YtoefbcagokgfcaaUdA
import Derived.Test.YtoefbcagokgfcaaUaF
namespace Go.Proofs.Ytoefbcagokgfcaa
open Go.RowKit
set_option maxRecDepth 8000
def RNewQ (m : Int) (w : World) (e : Ending) (w' : World) : Prop :=
  ((m < 1 ∨ 8 < m) → e = .returned (.tuple #[.pointer none, .int .i64 220]) ∧ w' = w) ∧
  (¬ (m < 1 ∨ 8 < m) → e = .returned (.tuple #[.pointer (some ⟨w.heap.size, 0, none⟩), .int .i64 0]) ∧ w.heap.size < w'.heap.size ∧ Below w.heap.size w w' ∧ ∀ Z : Nat → Prop, (∀ k, Z k → k < w.heap.size) → RfA w' Z w.heap.size m [] 0)
set_option maxHeartbeats 4000000 in
/-- the reference's New -/
theorem rnew_any (m : Int) (w : World) : Calls Try.prog 31 #[.int .i64 m] w fun e w' => RNewQ m w e w' := by
  by_cases h0 : m < 1
  · have HP := hid h0
    go_enter Try.func31, Try.ntmps31
    go_wp2
    exact bodyPost_ret (v := .tuple #[.pointer none, .int .i64 220]) (by simp [results, Try.results31, go_sem]) rfl ⟨fun _ => ⟨rfl, rfl⟩, fun h => absurd (.inl HP.out) h⟩
  · by_cases h1 : 8 < m
    · have HP := hid h1
      have h0' : decide (m < 1) = false := decide_eq_false h0
      have h1' : decide (8 < m) = true := decide_eq_true h1
      clear h0 h1
      go_enter Try.func31, Try.ntmps31
      go_wp2
      exact bodyPost_ret (v := .tuple #[.pointer none, .int .i64 220]) (by simp [results, Try.results31, go_sem]) rfl ⟨fun _ => ⟨rfl, rfl⟩, fun h => absurd (.inr HP.out) h⟩
    · have h0' : decide (m < 1) = false := decide_eq_false h0
      have h1' : decide (8 < m) = false := decide_eq_false h1
      have HP := hid (show ¬ (m < 1 ∨ 8 < m) by omega)
      clear h0 h1
      go_enter Try.func31, Try.ntmps31
      go_wp2
      refine bodyPost_ret (v := .tuple #[.pointer (some ⟨w.heap.size, 0, none⟩), .int .i64 0]) (by simp [results, Try.results31, go_sem]) rfl ⟨fun h => absurd h HP.out, fun _ => ⟨rfl, by simp, (Below.refl _ _).alloc (Nat.le_refl _) _, fun Z hZ => ?_⟩⟩
      refine ⟨.slice none 0 0, [], ⟨Box.new w _ _, World.ownsRow_nil _ _ _ _, fun x hx => (by cases hx), fun hz => ?_, fun g hg => (by cases hg), fun x hx => (by cases hx)⟩, rfl, Nat.le_refl _⟩
      have := hZ _ hz
      omega
theorem RfI.get {w : World} {Z : Nat → Prop} {rb : Nat} {m : Int} {v : Value} {P : List PK} (h : RfI w Z rb m v P) {k : Nat} {x : PK} (hx : P[k]? = some x) : ∃ g cap, v = .slice (some ⟨g, 0, none⟩) P.length cap ∧ g < w.heap.size ∧ w.cell? ⟨g, k * 4, none⟩ = some (.int .i64 x.fr) ∧ w.cell? ⟨g, k * 4 + 1, none⟩ = some (.int .i64 x.tt) ∧ w.cell? ⟨g, k * 4 + 2, none⟩ = some (.slice x.y.p x.y.n x.y.c) ∧ w.cell? ⟨g, k * 4 + 3, none⟩ = some (.bool x.out) ∧ (∀ o, w.frozen? ⟨g, o, none⟩ = false) := by
  have hk : k < P.length := by
    rcases Nat.lt_or_ge k P.length with h1 | h1
    · exact h1
    · rw [List.getElem?_eq_none h1] at hx; cases hx
  have hlt := h.row.lt
  have hce := @World.ownsRow.cells _ _ _ _ _ _ _ h.row
  obtain ⟨_, ⟨hv, h0⟩ | ⟨g, cap, cur, hv, _, hh, _⟩⟩ := id h.row
  · omega
  · have hbx : Box w g cur 90 := hh
    have key : ∀ r u, r < 4 → x.cells[r]? = some u → w.cell? ⟨g, k * 4 + r, none⟩ = some u := fun r u hr hu => by
      have := hce (g := g) (by rw [hv]; rfl) (k * 4 + r) u (by rw [flat4 P k r x hx hr]; exact hu)
      rw [Go.WideShapes.add_plain, Nat.zero_add] at this
      exact this
    exact ⟨g, cap, hv, (hlt g (by rw [hv]; rfl)).2, key 0 _ (by omega) rfl, key 1 _ (by omega) rfl, key 2 _ (by omega) rfl, key 3 _ (by omega) rfl, fun o => hbx.frozen o⟩
theorem infl_take {P : List PK} {k : Nat} {x : PK} (hx : P[k]? = some x) : infl (P.take (k + 1)) = infl (P.take k) ++ (if x.out then [] else [x.a]) := by
  rw [List.take_add_one, hx, infl_app]
  congr 1
set_option maxHeartbeats 4000000 in
/-- place -/
theorem rplace_any (w : World) (Z : Nat → Prop) (rb : Nat) (m : Int) (v : Value) (P : List PK) (hI : RfI w Z rb m v P) (hP : P.length ≤ 140737488355328) (i : Int) (hib : i ≤ 9223372036854775807) :
    Calls Try.prog 46 #[.pointer (some ⟨rb, 0, none⟩), .int .i64 i] w fun e w' => w' = w ∧ (¬ inA i (infl P).length → e = .returned (.int .i64 (-1))) ∧ (inA i (infl P).length → ∃ k x, Pl P i.toNat k x ∧ e = .returned (.int .i64 (k : Int))) := by
  by_cases hi : i < 0
  · have HP : Hid (¬ inA i (infl P).length) := fun h => by have h1 : 0 ≤ i ∧ _ := h; omega
    clear hI
    go_enter Try.func46, Try.ntmps46
    go_wp2
    exact bodyPost_ret (v := .int .i64 (-1)) (by simp [results, Try.results46, go_sem]) rfl ⟨rfl, fun _ => rfl, fun h => absurd h HP.out⟩
  · obtain ⟨i0, hi0⟩ : ∃ j : Nat, i = (j : Int) := ⟨i.toNat, by omega⟩
    subst hi0
    obtain ⟨p0, c0, hv⟩ := ownsRow_slice hI.row
    have b1 := hI.bx.cell 1
    simp [hv] at b1
    have bl := hI.bx.lt
    have HI := hid hI
    have HV := hid hv
    have hi' : ¬ (i0 : Int) < 0 := hi
    clear hI hv hi
    go_enter Try.func46, Try.ntmps46
    go_wp2_with fail
    go_loopw [1, 5] (fun a x wr => ∃ j k : Nat, a = .int .i64 (j : Int) ∧ x = .int .i64 (k : Int) ∧ k ≤ P.length ∧ j ≤ i0 ∧ j + (infl (P.take k)).length = i0 ∧ wr = w) (fun _ x _ => P.length - (intOf x).toNat)
    case atStart => exact ⟨i0, 0, rfl, rfl, by omega, Nat.le_refl _, by simp [infl], rfl⟩
    case round =>
      obtain ⟨j, k, rfl, rfl, hk, hji, hsum, rfl⟩ := hrel
      have HS := hid hsum
      clear hsum
      by_cases hlt : k < P.length
      · have hlt' : (k : Int) < (P.length : Int) := by omega
        obtain ⟨x, hx⟩ : ∃ x, P[k]? = some x := ⟨_, List.getElem?_eq_getElem hlt⟩
        obtain ⟨g, cap, hv, hgl, _, _, _, c3, _⟩ := HI.out.get hx
        have hp0 : p0 = some ⟨g, 0, none⟩ := by
          have h1 := HV.out
          rw [hv] at h1
          exact (Value.slice.inj h1).1.symm
        rw [hp0] at b1
        have HX := hid hx
        have HT := hid (infl_take hx)
        clear hx hv hp0
        cases ho : x.out with
        | true =>
          rw [ho] at c3
          have HO := hid ho
          clear ho
          have HN : Hid (j + (infl (P.take (k + 1))).length = i0) := by
            show _ = _
            rw [HT.out, HO.out]
            simpa using HS.out
          go_wp2
          first
            | exact ⟨⟨j, k + 1, rfl, by go_num, by omega, hji, HN.out, rfl⟩, by simp [intOf]; omega⟩
            | (go_roundw
               case rel => exact ⟨j, k + 1, rfl, by go_num, by omega, hji, HN.out, by first | rfl | trivial⟩
               case measure => simp [intOf]; omega)
        | false =>
          rw [ho] at c3
          have HO := hid ho
          clear ho
          by_cases hj : j = 0
          · subst hj
            have HPl : Hid (Pl P i0 k x) := ⟨HX.out, HO.out, by have := HS.out; omega⟩
            have HPi : Hid (inA (i0 : Int) (infl P).length) := by
              have h1 := HPl.out.get
              have h2 : i0 < (infl P).length := by
                rcases Nat.lt_or_ge i0 (infl P).length with h2 | h2
                · exact h2
                · rw [List.getElem?_eq_none h2] at h1; cases h1
              show 0 ≤ (i0 : Int) ∧ (i0 : Int) < _
              omega
            go_wp2
            exact bodyPost_ret (v := .int .i64 (k : Int)) (by simp [results, Try.results46, go_sem]) rfl ⟨rfl, fun h => absurd HPi.out h, fun _ => ⟨k, x, HPl.out, rfl⟩⟩
          · have hj' : ((j : Int) == 0) = false := by simp; omega
            obtain ⟨j1, hj1⟩ : ∃ j1, j = j1 + 1 := ⟨j - 1, by omega⟩
            have HN : Hid (j1 + (infl (P.take (k + 1))).length = i0) := by
              show _ = _
              rw [HT.out, HO.out]
              have := HS.out
              simp
              omega
            subst hj1
            go_wp2
            go_roundw
            case rel => exact ⟨j1, k + 1, by go_num, by go_num, by omega, by omega, HN.out, by first | rfl | trivial⟩
            case measure => simp [intOf]; omega
      · obtain rfl : k = P.length := by omega
        have HPi : Hid (¬ inA (i0 : Int) (infl P).length) := fun h => by
          have h1 : 0 ≤ (i0 : Int) ∧ (i0 : Int) < ((infl P).length : Int) := h
          have h2 := HS.out
          rw [List.take_length] at h2
          omega
        go_wp2
        exact bodyPost_ret (v := .int .i64 (-1)) (by simp [results, Try.results46, go_sem]) rfl ⟨rfl, fun _ => rfl, fun h => absurd h HPi.out⟩
end Go.Proofs.Ytoefbcagokgfcaa
