import Derived.Test.YtckopbkhpbhljaaPack0
import Derived.Test.YtckopbkhpbhljaaPack39
import Derived.Test.YtckopbkhpbhljaaPack1
import Derived.Lib.AppendStr
namespace Go.Proofs.Ytckopbkhpbhljaa
open Go.RowKit
set_option maxRecDepth 8000
theorem kindB : ∃ i, Kind 149 5 i (.int .u8 0) 1 1 := by
  obtain ⟨i0, hi, hz0, hz1, hz2⟩ := info_parts (show (Try.prog.info? 5).map (fun i => (i.zero, i.size, i.bytes)) = some (some (.int .u8 0), 1, 1) by kernel_rfl)
  exact ⟨i0, Try.underlying149, hi, hz0, hz1, hz2, rfl, by decide⟩
theorem wrap_u64 (x : Int) : IntKind.u64.wrap x = x % 18446744073709551616 := by
  simp [IntKind.wrap, IntKind.bits, IntKind.signed]
/-- a row of one byte -/
theorem row_one (w : World) (x : Int) : (w.alloc (.cells #[.int .u8 x] 5)).ownsRow w.heap.size 5 1 (.slice (some ⟨w.heap.size, 0, none⟩) 1 1) 1 [.int .u8 x] := by
  have h := World.ownsRow_made (base := w.heap.size) (e := 5) (size := 1) w #[.int .u8 x] 1 (Nat.le_refl _) (by unfold maxLen; omega) (by simp)
  refine ⟨by simp, .inr ⟨w.heap.size, 1, #[.int .u8 x], rfl, Nat.le_refl _, ?_, Nat.le_refl _, by unfold maxLen; omega, by simp, by simp⟩⟩
  exact Box.new w _ 5

/-- bytes in a row of the call's own -/
def OwnBy (base : Nat) (w : World) (v : Value) (zs : List Int) : Prop := w.ownsRow base 5 1 v zs.length (zs.map (Value.int .u8))
theorem OwnBy.app {base : Nat} {w w' : World} {v v' : Value} {zs ys : List Int} (_h : OwnBy base w v zs) (ho : w'.ownsRow base 5 1 v' (zs.length + ys.length) (zs.map (Value.int .u8) ++ ys.map (Value.int .u8))) : OwnBy base w' v' (zs ++ ys) := by
  unfold OwnBy
  rw [List.length_append, List.map_append]
  exact ho
theorem OwnBy.below {base : Nat} {w w' : World} {v : Value} {zs : List Int} (h : OwnBy base w v zs) (hb : Below w.heap.size w w') : OwnBy base w' v zs := ownsRow_keep h fun g _ hl => hb.block g hl
theorem OwnBy.slice {base : Nat} {w : World} {v : Value} {zs : List Int} (h : OwnBy base w v zs) (hz : 0 < zs.length) : ∃ b c, v = .slice (some ⟨b, 0, none⟩) zs.length c ∧ base ≤ b ∧ b < w.heap.size ∧ ∀ j u, (zs.map (Value.int .u8))[j]? = some u → w.cell? ((⟨b, 0, none⟩ : Addr).add j) = some u := by
  have hlt := World.ownsRow.lt h
  have hc := @World.ownsRow.cells _ _ _ _ _ _ _ h
  obtain ⟨_, ⟨hv, h0⟩ | ⟨b, cap, cur, hv, hbg, hh, _⟩⟩ := id h
  · omega
  · exact ⟨b, cap, hv, hbg, (hlt b (by rw [hv]; rfl)).2, hc (by rw [hv]; rfl)⟩
end Go.Proofs.Ytckopbkhpbhljaa

namespace Go.Proofs.Ytckopbkhpbhljaa
open Go.RowKit
set_option maxRecDepth 8000

/-- a number in groups of seven bits -/
def grpB (u : Nat) : List Int := if u < 128 then [(u : Int)] else ((u % 128 + 128 : Nat) : Int) :: grpB (u / 128)
termination_by u
decreasing_by omega
theorem grpB_small {u : Nat} (h : u < 128) : grpB u = [(u : Int)] := by rw [grpB, if_pos h]
theorem grpB_great {u : Nat} (h : ¬ u < 128) : grpB u = ((u % 128 + 128 : Nat) : Int) :: grpB (u / 128) := by rw [grpB, if_neg h]
theorem grpB_len : ∀ (k u : Nat), u < 128 ^ (k + 1) → (grpB u).length ≤ k + 1 := by
  intro k
  induction k with
  | zero => intro u h; rw [grpB_small (by simpa using h)]; simp
  | succ k ih =>
    intro u h
    by_cases hu : u < 128
    · rw [grpB_small hu]; simp
    · rw [grpB_great hu]
      have h1 : u / 128 < 128 ^ (k + 1) := by
        rw [Nat.div_lt_iff_lt_mul (by omega)]
        rw [Nat.pow_succ] at h
        exact h
      have := ih _ h1
      simp
      omega
/-- the number that an int is folded to -/
def foldN (i : Int) : Nat := if i < 0 then 2 * (-1 - i).toNat + 1 else 2 * i.toNat
/-- a text's bytes -/
def txtB (s : ByteArray) : List Int := s.data.toList.map fun b => (b.toNat : Int)
/-- a value's bytes -/
def encB : VT → List Int
  | .nil => [0]
  | .mk k i s n _ _ f => k :: (if k = 1 then grpB (foldN i) else if k = 2 then (s.size : Int) :: txtB s else if k = 3 then (n : Int) :: (List.range n).flatMap fun j => encB (f j) else [])
theorem encB_eq (k i : Int) (s : ByteArray) (n : Nat) (p : Option Addr) (c : Nat) (f : Nat → VT) : encB (.mk k i s n p c f) = k :: (if k = 1 then grpB (foldN i) else if k = 2 then (s.size : Int) :: txtB s else if k = 3 then (n : Int) :: (List.range n).flatMap fun j => encB (f j) else []) := rfl
/-- a part's bytes -/
def encP (q : PT) : List Int := q.kind :: (if q.kind = 1 then grpB (foldN q.int) else if q.kind = 2 then (q.text.size : Int) :: txtB q.text else if q.kind = 3 then [(q.n : Int)] else [])
theorem strCells_txt (s : ByteArray) : Go.Lib.strCells s = (txtB s).map (Value.int .u8) := by
  simp [Go.Lib.strCells, txtB, List.map_map, Function.comp_def]
theorem txtB_len (s : ByteArray) : (txtB s).length = s.size := by
  unfold txtB
  rw [List.length_map, Array.length_toList]
  rfl
theorem enc_flat : ∀ t : VT, Val t → (flatP t).flatMap encP = encB t := by
  intro t
  induction t with
  | nil => intro h; exact h.elim
  | mk k i s n p c f ih =>
    intro h
    obtain ⟨⟨h1, _⟩, h2⟩ := h
    rw [flatP_eq, encB_eq, List.flatMap_cons]
    have h3 : ((List.range n).flatMap fun j => flatP (f j)).flatMap encP = (List.range n).flatMap fun j => encB (f j) := by
      rw [List.flatMap_assoc, List.flatMap_def, List.flatMap_def]
      congr 1
      apply List.map_congr_left
      intro j hj
      exact ih j (h2 j (List.mem_range.1 hj))
    rw [h3]
    by_cases hk : k = 3
    · subst hk
      simp [encP]
    · have hn : n = 0 := by
        simp only [fitB, Bool.and_eq_true, Bool.or_eq_true, decide_eq_true_eq] at h1
        rcases h1.2 with h | h
        · exact h
        · exact absurd h hk
      subst hn
      simp [encP, hk]
theorem foldN_lt {i : Int} (h1 : -9223372036854775808 ≤ i) (h2 : i ≤ 9223372036854775807) : foldN i < 18446744073709551616 := by
  unfold foldN; split <;> omega
theorem grp_fold_len {i : Int} (h1 : -9223372036854775808 ≤ i) (h2 : i ≤ 9223372036854775807) : (grpB (foldN i)).length ≤ 10 :=
  grpB_len 9 _ (Nat.lt_of_lt_of_le (foldN_lt h1 h2) (by decide))
theorem encP_len {t : VT} (h : Val t) : ∀ q ∈ flatP t, (encP q).length ≤ 60 := by
  induction t with
  | nil => exact h.elim
  | mk k i s n p c f ih =>
    obtain ⟨⟨h1, h2, h3, h4, h5⟩, h6⟩ := h
    intro q hq
    rw [flatP_eq, List.mem_cons] at hq
    rcases hq with rfl | hq
    · have := grp_fold_len h4 h5
      have := txtB_len s
      simp only [encP]
      split
      · simp; omega
      · split
        · simp; omega
        · split <;> simp
    · obtain ⟨j, hj, hq⟩ := List.mem_flatMap.1 hq
      exact ih j (h6 j (List.mem_range.1 hj)) q hq
theorem flatMap_le {α β : Type} (g : α → List β) (m : Nat) : ∀ l : List α, (∀ q ∈ l, (g q).length ≤ m) → (l.flatMap g).length ≤ m * l.length := by
  intro l
  induction l with
  | nil => intro _; simp
  | cons a r ih =>
    intro h
    have h1 := h a (List.mem_cons_self ..)
    have h2 := ih fun q hq => h q (List.mem_cons_of_mem _ hq)
    rw [List.flatMap_cons, List.length_append, List.length_cons, Nat.mul_succ]
    omega
theorem enc_len {t : VT} (h : Val t) : (encB t).length ≤ 60 * (flatP t).length := by
  rw [← enc_flat t h]; exact flatMap_le _ _ _ (encP_len h)

theorem or128 (u : Nat) : (u % 256) ||| 128 = u % 128 + 128 := by
  have h : ∀ v : Nat, v < 256 → v ||| 128 = v % 128 + 128 := by decide
  rw [h _ (Nat.mod_lt _ (by omega))]
  omega
theorem bits_or128 (u : Nat) : bits BinOp.or IntKind.u8 ((u % 256 : Nat) : Int) 128 = ((u % 128 + 128 : Nat) : Int) := by
  rw [← or128]
  have h : ∀ v : Nat, v < 256 → bits BinOp.or IntKind.u8 (v : Int) 128 = ((v ||| 128 : Nat) : Int) := by decide
  exact h _ (Nat.mod_lt _ (by omega))
end Go.Proofs.Ytckopbkhpbhljaa
