import Derived.Test.YtbkikbhodgjijaaYJ
import Derived.Lib.SliceRun
namespace Go.Proofs.Ytbkikbhodgjijaa
open Go.RowKit
set_option maxRecDepth 8000
/-- counts in a block of their own -/
def Cnt (w : World) (g T : Nat) (f : Nat → Nat) : Prop := ∃ cs, Box w g cs 3 ∧ cs.size = T ∧ ∀ k, k < T → cs[k]? = some (.int .i64 (f k : Int))
def Raw (w : World) (g T : Nat) : Prop := ∃ cs, Box w g cs 3 ∧ cs.size = T
theorem Cnt.raw {w : World} {g T : Nat} {f : Nat → Nat} (h : Cnt w g T f) : Raw w g T := by obtain ⟨cs, hb, hs, _⟩ := h; exact ⟨cs, hb, hs⟩
theorem Raw.lt {w : World} {g T : Nat} (h : Raw w g T) : g < w.heap.size := by obtain ⟨cs, hb, _⟩ := h; exact hb.lt
theorem Raw.but {w w' : World} {X : Nat → Prop} {g T : Nat} (h : Raw w g T) (hb : But X w w') (hx : ¬ X g) : Raw w' g T := by obtain ⟨cs, h1, hs⟩ := h; exact ⟨cs, h1.but hb hx, hs⟩
theorem Raw.below {w w' : World} {g T : Nat} (h : Raw w g T) (hb : Below w.heap.size w w') : Raw w' g T := by obtain ⟨cs, h1, hs⟩ := h; exact ⟨cs, h1.below hb, hs⟩
theorem Cnt.lt {w : World} {g T : Nat} {f : Nat → Nat} (h : Cnt w g T f) : g < w.heap.size := h.raw.lt
theorem Cnt.cell {w : World} {g T : Nat} {f : Nat → Nat} (h : Cnt w g T f) {k : Nat} (hk : k < T) : w.cell? ⟨g, k, none⟩ = some (.int .i64 (f k : Int)) := by obtain ⟨cs, hb, hs, hc⟩ := h; rw [hb.cell]; exact hc k hk
theorem Cnt.frozen {w : World} {g T : Nat} {f : Nat → Nat} (h : Cnt w g T f) (k : Nat) : w.frozen? ⟨g, k, none⟩ = false := by obtain ⟨cs, hb, hs, hc⟩ := h; exact hb.frozen k
theorem Cnt.but {w w' : World} {X : Nat → Prop} {g T : Nat} {f : Nat → Nat} (h : Cnt w g T f) (hb : But X w w') (hx : ¬ X g) : Cnt w' g T f := by obtain ⟨cs, h1, hs, hc⟩ := h; exact ⟨cs, h1.but hb hx, hs, hc⟩
theorem Cnt.below {w w' : World} {g T : Nat} {f : Nat → Nat} (h : Cnt w g T f) (hb : Below w.heap.size w w') : Cnt w' g T f := by obtain ⟨cs, h1, hs, hc⟩ := h; exact ⟨cs, h1.below hb, hs, hc⟩
theorem Cnt.set {w : World} {g T : Nat} {f : Nat → Nat} (h : Cnt w g T f) {k : Nat} (hk : k < T) (x : Nat) : Cnt (w.setCell ⟨g, k, none⟩ (.int .i64 (x : Int))) g T (fun q => if q = k then x else f q) := by
  obtain ⟨cs, h1, hs, hc⟩ := h
  refine ⟨_, h1.set k _, by simpa using hs, fun q hq => ?_⟩
  dsimp only
  by_cases hqk : q = k
  · subst hqk
    rw [if_pos rfl, Array.getElem?_setIfInBounds]
    simp [hs, hq]
  · rw [if_neg hqk, Array.getElem?_setIfInBounds, if_neg (fun e => hqk e.symm)]
    exact hc q hq
theorem box_sets {g : Nat} {e : TypeId} : ∀ (vs : List Value) (o : Nat) (w : World) (cs : Array Value), Box w g cs e → o + vs.length ≤ cs.size → ∃ cs', Box (w.setCells g o vs) g cs' e ∧ cs'.size = cs.size ∧ (∀ j, j < vs.length → cs'[o + j]? = vs[j]?) ∧ ∀ q, q < o → cs'[q]? = cs[q]? := by
  intro vs
  induction vs with
  | nil => intro o w cs h _; exact ⟨cs, h, rfl, fun j hj => absurd hj (by simp), fun _ _ => rfl⟩
  | cons v vs ih =>
    intro o w cs h hl
    simp only [List.length_cons] at hl
    obtain ⟨cs', h1, h2, h3, h4⟩ := ih (o + 1) (w.setCell ⟨g, o, none⟩ v) (cs.setIfInBounds o v) (h.set o v) (by simp; omega)
    refine ⟨cs', h1, by simpa using h2, fun j hj => ?_, fun q hq => ?_⟩
    · cases j with
      | zero =>
        rw [Nat.add_zero, h4 o (by omega), Array.getElem?_setIfInBounds, if_pos rfl, if_pos (by omega)]
        rfl
      | succ j =>
        simp only [List.length_cons] at hj
        rw [show o + (j + 1) = o + 1 + j by omega, h3 j (by omega)]
        simp
    · rw [h4 q (by omega), Array.getElem?_setIfInBounds, if_neg (by omega)]
theorem but_sets {g : Nat} : ∀ (vs : List Value) (o : Nat) (a w : World), But (fun x => x = g) a w → But (fun x => x = g) a (w.setCells g o vs) := by
  intro vs
  induction vs with
  | nil => intro o a w h; exact h
  | cons v vs ih => intro o a w h; exact ih (o + 1) a _ (h.setAt o v)
/-- clear of the counts -/
theorem clear_cnt {w : World} {g T : Nat} (h : Raw w g T) : Cnt (w.setCells g 0 (List.replicate T (.int .i64 0))) g T (fun _ => 0) := by
  obtain ⟨cs, hb, hs⟩ := h
  obtain ⟨cs', h1, h2, h3, _⟩ := box_sets (List.replicate T (.int .i64 0)) 0 w cs hb (by simp; omega)
  refine ⟨cs', h1, by omega, fun k hk => ?_⟩
  have := h3 k (by simpa using hk)
  rw [Nat.zero_add] at this
  rw [this]
  simp [hk]
theorem clear_run {w : World} {g T c : Nat} (h : Raw w g T) (hT : 0 < T) (ty : TypeId) : (Builtin.clear_ #[23] ty #[.slice (some ⟨g, 0, none⟩) T c]).run Try.prog w = .ok (.tuple #[]) (w.setCells g 0 (List.replicate T (.int .i64 0))) := by
  obtain ⟨cs, hb, hs⟩ := h
  refine Go.Lib.run_clear_slice w 23 3 ty (.int .i64 0) Try.underlying23 (fun w => by simp [go_sem]) rfl rfl g 0 T c hT (fun j hj => ?_) (fun j _ => hb.frozen _)
  rw [hb.cell]
  simp
  try omega
set_option maxHeartbeats 4000000 in
theorem newReader_any (T : Nat) (w : World) (hT : T ≤ 12) :
    Calls Try.prog 32 #[.int .i64 (T : Int)] w fun e w' => ∃ g, e = .returned (.agg #[.slice (some ⟨g, 0, none⟩) T T]) ∧ w.heap.size ≤ g ∧ Raw w' g T ∧ Below w.heap.size w w' := by
  obtain ⟨i0, Kd⟩ := kindIn
  obtain ⟨M, hM⟩ : ∃ M, M = madeCells (Value.int .i64 0).cells (((T : Nat) : Int).toNat * i0.size) := ⟨_, rfl⟩
  have hMs : M.size = T := by rw [hM, size_madeCells, Kd.hsize]; simp
  have hmk : ∀ W : World, (Instr.makeSlice 23 (.int .i64 (T : Int)) (.int .i64 (T : Int))).run Try.prog W = .ok (.slice (some ⟨W.heap.size, 0, none⟩) T T) (W.alloc (.cells M 3)) := fun W => by
    have h := run_make (P := Try.prog) W 23 3 i0 (.int .i64 0) Kd.ht Kd.hi Kd.hz .i64 .i64 (T : Int) (T : Int) (by omega) (by omega) (by rw [Kd.hby]; omega) (by omega)
    rw [← hM] at h
    simpa using h
  have HMs := hid hMs
  clear hM hMs Kd
  go_enter Try.func32, Try.ntmps32
  go_wp2
  have hb := Box.new (w.alloc (.cells #[.slice (some ⟨w.heap.size + 1, 0, none⟩) T T] 70)) M 3
  rw [World.size_alloc] at hb
  refine bodyPost_ret (v := .agg #[.slice (some ⟨w.heap.size + 1, 0, none⟩) T T]) (by simp [results, Try.results32, go_sem]) rfl ⟨w.heap.size + 1, rfl, by omega, ⟨M, ?_, HMs.out⟩, ?_⟩
  · exact hb
  · exact below2 _ _ _
theorem notOne_any (x : Int) (w : World) : Calls Try.prog 48 #[.int .i64 x] w fun e w' => e = .returned (.bool (x != 1)) ∧ w' = w := by
  go_enter Try.func48, Try.ntmps48
  go_wp2
  go_ret
  exact ⟨rfl, rfl⟩
set_option maxHeartbeats 4000000 in
theorem indexFunc_any (g T c : Nat) (f : Nat → Nat) (w : World) (hT : T ≤ 12) (h0 : 0 < T) (h : Cnt w g T f) :
    Calls Try.prog 52 #[.slice (some ⟨g, 0, none⟩) T c, .func (.func 48) #[] #[]] w fun e w' => ∃ x : Int, e = .returned (.int .i64 x) ∧ (0 ≤ x ↔ ∃ k, k < T ∧ f k ≠ 1) ∧ w' = w := by
  have H := hid h
  clear h
  go_enter Try.func52, Try.ntmps52
  go_wp2_with fail
  go_loopw [8] (fun x wr => ∃ k : Nat, k ≤ T ∧ x = .int .i64 (k : Int) ∧ (∀ q, q < k → f q = 1) ∧ wr = w) (fun x _ => T - (intOf x).toNat)
  case atStart => exact ⟨0, Nat.zero_le _, rfl, fun q hq => absurd hq (by omega), rfl⟩
  case round =>
    obtain ⟨k, hk, rfl, hno, rfl⟩ := hrel
    have HNo := hid hno
    clear hno
    by_cases hlt : k < T
    · have hlt' : (k : Int) < (T : Int) := by omega
      have a0 := H.out.cell hlt
      have HC := fun w => hid (notOne_any (f k : Int) w)
      by_cases h1 : f k = 1
      · have hb : ((f k : Int) != 1) = false := by simp [h1]
        have HF := hid h1
        clear h1
        go_wp2_with fail
        refine (HC _).out.mono ?_
        rintro e w2 ⟨rfl, rfl⟩
        rw [hb]
        go_wp2
        go_roundw
        case rel =>
          refine ⟨k + 1, by omega, by go_num, fun q hq => ?_, by first | rfl | trivial⟩
          by_cases hqk : q < k
          · exact HNo.out q hqk
          · obtain rfl : q = k := by omega
            exact HF.out
        case measure => simp [intOf]; omega
      · have hb : ((f k : Int) != 1) = true := by simp; omega
        have HF := hid h1
        clear h1
        go_wp2_with fail
        refine (HC _).out.mono ?_
        rintro e w2 ⟨rfl, rfl⟩
        rw [hb]
        go_wp2
        go_ret
        exact ⟨(k : Int), rfl, ⟨fun _ => ⟨k, hlt, HF.out⟩, fun _ => by omega⟩, rfl⟩
    · obtain rfl : k = T := by omega
      go_wp2
      go_ret
      exact ⟨-1, rfl, ⟨fun h => by omega, fun ⟨q, hq, hf⟩ => (hf (HNo.out q hq)).elim⟩, rfl⟩
theorem containsFunc_any (g T c : Nat) (f : Nat → Nat) (w : World) (hT : T ≤ 12) (h0 : 0 < T) (h : Cnt w g T f) :
    Calls Try.prog 47 #[.slice (some ⟨g, 0, none⟩) T c, .func (.func 48) #[] #[]] w fun e w' => YesQ (∃ k, k < T ∧ f k ≠ 1) w e w' ∧ w' = w := by
  have HC := hid (indexFunc_any g T c f w hT h0 h)
  clear h
  go_enter Try.func47, Try.ntmps47
  go_wp2_with fail
  refine HC.out.mono ?_
  rintro e w2 ⟨x, rfl, hx, rfl⟩
  have HX := hid hx
  clear hx HC
  go_wp2
  go_ret
  refine ⟨⟨_, rfl, ?_, Below.refl _ _⟩, rfl⟩
  rw [decide_eq_true_eq]
  exact HX.out
end Go.Proofs.Ytbkikbhodgjijaa
