import Derived.Test.YtfonicphdejdlaaGreatPack0
import Derived.Lib.Bytealg
namespace Go.Proofs.YtfonicphdejdlaaGreat
open Go.RowKit
set_option maxRecDepth 8000
theorem kindB : ∃ i, Kind 49 5 i (.int .u8 0) 1 1 := by
  obtain ⟨i0, hi, hz0, hz1, hz2⟩ := info_parts (show (Tryz.prog.info? 5).map (fun i => (i.zero, i.size, i.bytes)) = some (some (.int .u8 0), 1, 1) by kernel_rfl)
  exact ⟨i0, Tryz.underlying49, hi, hz0, hz1, hz2, rfl, by decide⟩
theorem wrap_u64 (x : Int) : IntKind.u64.wrap x = x % 18446744073709551616 := by
  simp [IntKind.wrap, IntKind.bits, IntKind.signed]
/-- a row of one byte -/
theorem row_one (w : World) (x : Int) : (w.alloc (.cells #[.int .u8 x] 5)).ownsRow w.heap.size 5 1 (.slice (some ⟨w.heap.size, 0, none⟩) 1 1) 1 [.int .u8 x] := by
  have h := World.ownsRow_made (base := w.heap.size) (e := 5) (size := 1) w #[.int .u8 x] 1 (Nat.le_refl _) (by unfold maxLen; omega) (by simp)
  refine ⟨by simp, .inr ⟨w.heap.size, 1, #[.int .u8 x], rfl, Nat.le_refl _, ?_, Nat.le_refl _, by unfold maxLen; omega, by simp, by simp⟩⟩
  exact Box.new w _ 5

/-- bytes in a row of the call's own -/
def OwnBy (base : Nat) (w : World) (v : Value) (zs : List Int) : Prop := w.ownsRow base 5 1 v zs.length (zs.map (Value.int .u8))
theorem OwnBy.app {base : Nat} {w w' : World} {v v' : Value} {zs ys : List Int} (_h : OwnBy base w v zs) (ho : w'.ownsRow base 5 1 v' (zs.length + ys.length) (zs.map (Value.int .u8) ++ ys.map (Value.int .u8))) : OwnBy base w' v' (zs ++ ys) := by
  unfold OwnBy
  rw [List.length_append, List.map_append]
  exact ho
theorem OwnBy.below {base : Nat} {w w' : World} {v : Value} {zs : List Int} (h : OwnBy base w v zs) (hb : Below w.heap.size w w') : OwnBy base w' v zs := ownsRow_keep h fun g _ hl => hb.block g hl
theorem OwnBy.slice {base : Nat} {w : World} {v : Value} {zs : List Int} (h : OwnBy base w v zs) (hz : 0 < zs.length) : ∃ b c, v = .slice (some ⟨b, 0, none⟩) zs.length c ∧ base ≤ b ∧ b < w.heap.size ∧ ∀ j u, (zs.map (Value.int .u8))[j]? = some u → w.cell? ((⟨b, 0, none⟩ : Addr).add j) = some u := by
  have hlt := World.ownsRow.lt h
  have hc := @World.ownsRow.cells _ _ _ _ _ _ _ h
  obtain ⟨_, ⟨hv, h0⟩ | ⟨b, cap, cur, hv, hbg, hh, _⟩⟩ := id h
  · omega
  · exact ⟨b, cap, hv, hbg, (hlt b (by rw [hv]; rfl)).2, hc (by rw [hv]; rfl)⟩
end Go.Proofs.YtfonicphdejdlaaGreat

namespace Go.Proofs.YtfonicphdejdlaaGreat
open Go.RowKit
set_option maxRecDepth 8000

/-- the order of two ints -/
def cmpI (x y : Int) : Int := if x < y then -1 else if y < x then 1 else 0
/-- the order of two texts -/
def cmpS (a b : ByteArray) : Int := Go.Lib.compareBytes a.data.toList b.data.toList

end Go.Proofs.YtfonicphdejdlaaGreat

namespace Go.Proofs.YtfonicphdejdlaaGreat
open Go.RowKit
set_option maxRecDepth 8000

/-- its kind is one, and no field of another kind is set -/
def fitB (k i : Int) (s : ByteArray) (n : Nat) : Bool := decide (0 ≤ k) && decide (k ≤ 3) && (decide (i = 0) || decide (k = 1)) && (s.toList.isEmpty || decide (k = 2)) && (decide (n = 0) || decide (k = 3))

theorem fits_low (k i : Int) (s : ByteArray) (n : Nat) (p : Option Addr) (c : Nat) (w : World) (h : k < 0) :
    Calls Tryz.prog 117 #[.agg #[.int .i64 k, .int .i64 i, .string s, .slice p n c]] w fun e w' => e = .returned (.bool false) ∧ Below w.heap.size w w' := by
  go_enter Tryz.func117, Tryz.ntmps117
  go_wp2
  go_ret
  exact ⟨rfl, (Below.refl _ _).alloc (Nat.le_refl _) _⟩
theorem fits_high (k i : Int) (s : ByteArray) (n : Nat) (p : Option Addr) (c : Nat) (w : World) (h : 3 < k) (h2 : 0 ≤ k) :
    Calls Tryz.prog 117 #[.agg #[.int .i64 k, .int .i64 i, .string s, .slice p n c]] w fun e w' => e = .returned (.bool false) ∧ Below w.heap.size w w' := by
  go_enter Tryz.func117, Tryz.ntmps117
  go_wp2
  go_ret
  exact ⟨rfl, (Below.refl _ _).alloc (Nat.le_refl _) _⟩
set_option maxHeartbeats 2000000 in
theorem fits_0 (i : Int) (s : ByteArray) (n : Nat) (p : Option Addr) (c : Nat) (w : World) :
    Calls Tryz.prog 117 #[.agg #[.int .i64 0, .int .i64 i, .string s, .slice p n c]] w fun e w' => e = .returned (.bool (fitB 0 i s n)) ∧ Below w.heap.size w w' := by
  by_cases h1 : i = 0
  · subst h1
    cases h2 : s.toList.isEmpty with
    | true =>
      by_cases h3 : n = 0
      · subst h3
        go_enter Tryz.func117, Tryz.ntmps117
        go_wp2
        go_ret
        exact ⟨by simp [fitB, h2], (Below.refl _ _).alloc (Nat.le_refl _) _⟩
      · have h5 : ((n : Int) == 0) = false := by rw [beq_eq_false_iff_ne]; omega
        go_enter Tryz.func117, Tryz.ntmps117
        go_wp2
        go_ret
        exact ⟨by simp [fitB, h2, h3], (Below.refl _ _).alloc (Nat.le_refl _) _⟩
    | false =>
      go_enter Tryz.func117, Tryz.ntmps117
      go_wp2
      go_ret
      exact ⟨by simp [fitB, h2], (Below.refl _ _).alloc (Nat.le_refl _) _⟩
  · have h4 : (i == 0) = false := by rw [beq_eq_false_iff_ne]; omega
    go_enter Tryz.func117, Tryz.ntmps117
    go_wp2
    go_ret
    exact ⟨by simp [fitB, h1], (Below.refl _ _).alloc (Nat.le_refl _) _⟩
set_option maxHeartbeats 2000000 in
theorem fits_1 (i : Int) (s : ByteArray) (n : Nat) (p : Option Addr) (c : Nat) (w : World) :
    Calls Tryz.prog 117 #[.agg #[.int .i64 1, .int .i64 i, .string s, .slice p n c]] w fun e w' => e = .returned (.bool (fitB 1 i s n)) ∧ Below w.heap.size w w' := by
  by_cases h1 : i = 0
  · subst h1
    cases h2 : s.toList.isEmpty with
    | true =>
      by_cases h3 : n = 0
      · subst h3
        go_enter Tryz.func117, Tryz.ntmps117
        go_wp2
        go_ret
        exact ⟨by simp [fitB, h2], (Below.refl _ _).alloc (Nat.le_refl _) _⟩
      · have h5 : ((n : Int) == 0) = false := by rw [beq_eq_false_iff_ne]; omega
        go_enter Tryz.func117, Tryz.ntmps117
        go_wp2
        go_ret
        exact ⟨by simp [fitB, h2, h3], (Below.refl _ _).alloc (Nat.le_refl _) _⟩
    | false =>
      go_enter Tryz.func117, Tryz.ntmps117
      go_wp2
      go_ret
      exact ⟨by simp [fitB, h2], (Below.refl _ _).alloc (Nat.le_refl _) _⟩
  · have h4 : (i == 0) = false := by rw [beq_eq_false_iff_ne]; omega
    cases h2 : s.toList.isEmpty with
    | true =>
      by_cases h3 : n = 0
      · subst h3
        go_enter Tryz.func117, Tryz.ntmps117
        go_wp2
        go_ret
        exact ⟨by simp [fitB, h2], (Below.refl _ _).alloc (Nat.le_refl _) _⟩
      · have h5 : ((n : Int) == 0) = false := by rw [beq_eq_false_iff_ne]; omega
        go_enter Tryz.func117, Tryz.ntmps117
        go_wp2
        go_ret
        exact ⟨by simp [fitB, h2, h3], (Below.refl _ _).alloc (Nat.le_refl _) _⟩
    | false =>
      go_enter Tryz.func117, Tryz.ntmps117
      go_wp2
      go_ret
      exact ⟨by simp [fitB, h2], (Below.refl _ _).alloc (Nat.le_refl _) _⟩
set_option maxHeartbeats 2000000 in
theorem fits_2 (i : Int) (s : ByteArray) (n : Nat) (p : Option Addr) (c : Nat) (w : World) :
    Calls Tryz.prog 117 #[.agg #[.int .i64 2, .int .i64 i, .string s, .slice p n c]] w fun e w' => e = .returned (.bool (fitB 2 i s n)) ∧ Below w.heap.size w w' := by
  by_cases h1 : i = 0
  · subst h1
    cases h2 : s.toList.isEmpty with
    | true =>
      by_cases h3 : n = 0
      · subst h3
        go_enter Tryz.func117, Tryz.ntmps117
        go_wp2
        go_ret
        exact ⟨by simp [fitB], (Below.refl _ _).alloc (Nat.le_refl _) _⟩
      · have h5 : ((n : Int) == 0) = false := by rw [beq_eq_false_iff_ne]; omega
        go_enter Tryz.func117, Tryz.ntmps117
        go_wp2
        go_ret
        exact ⟨by simp [fitB, h3], (Below.refl _ _).alloc (Nat.le_refl _) _⟩
    | false =>
      by_cases h3 : n = 0
      · subst h3
        go_enter Tryz.func117, Tryz.ntmps117
        go_wp2
        go_ret
        exact ⟨by simp [fitB], (Below.refl _ _).alloc (Nat.le_refl _) _⟩
      · have h5 : ((n : Int) == 0) = false := by rw [beq_eq_false_iff_ne]; omega
        go_enter Tryz.func117, Tryz.ntmps117
        go_wp2
        go_ret
        exact ⟨by simp [fitB, h3], (Below.refl _ _).alloc (Nat.le_refl _) _⟩
  · have h4 : (i == 0) = false := by rw [beq_eq_false_iff_ne]; omega
    go_enter Tryz.func117, Tryz.ntmps117
    go_wp2
    go_ret
    exact ⟨by simp [fitB, h1], (Below.refl _ _).alloc (Nat.le_refl _) _⟩
set_option maxHeartbeats 2000000 in
theorem fits_3 (i : Int) (s : ByteArray) (n : Nat) (p : Option Addr) (c : Nat) (w : World) :
    Calls Tryz.prog 117 #[.agg #[.int .i64 3, .int .i64 i, .string s, .slice p n c]] w fun e w' => e = .returned (.bool (fitB 3 i s n)) ∧ Below w.heap.size w w' := by
  by_cases h1 : i = 0
  · subst h1
    cases h2 : s.toList.isEmpty with
    | true =>
      by_cases h3 : n = 0
      · subst h3
        go_enter Tryz.func117, Tryz.ntmps117
        go_wp2
        go_ret
        exact ⟨by simp [fitB, h2], (Below.refl _ _).alloc (Nat.le_refl _) _⟩
      · have h5 : ((n : Int) == 0) = false := by rw [beq_eq_false_iff_ne]; omega
        go_enter Tryz.func117, Tryz.ntmps117
        go_wp2
        go_ret
        exact ⟨by simp [fitB, h2], (Below.refl _ _).alloc (Nat.le_refl _) _⟩
    | false =>
      go_enter Tryz.func117, Tryz.ntmps117
      go_wp2
      go_ret
      exact ⟨by simp [fitB, h2], (Below.refl _ _).alloc (Nat.le_refl _) _⟩
  · have h4 : (i == 0) = false := by rw [beq_eq_false_iff_ne]; omega
    go_enter Tryz.func117, Tryz.ntmps117
    go_wp2
    go_ret
    exact ⟨by simp [fitB, h1], (Below.refl _ _).alloc (Nat.le_refl _) _⟩

theorem fits_any (k i : Int) (s : ByteArray) (n : Nat) (p : Option Addr) (c : Nat) (w : World) :
    Calls Tryz.prog 117 #[.agg #[.int .i64 k, .int .i64 i, .string s, .slice p n c]] w fun e w' => e = .returned (.bool (fitB k i s n)) ∧ Below w.heap.size w w' := by
  by_cases h0 : k < 0
  · rw [show fitB k i s n = false by simp [fitB]; omega]
    exact fits_low k i s n p c w h0
  by_cases h3 : 3 < k
  · rw [show fitB k i s n = false by simp [fitB]; omega]
    exact fits_high k i s n p c w h3 (by omega)
  obtain rfl | rfl | rfl | rfl : k = 0 ∨ k = 1 ∨ k = 2 ∨ k = 3 := by omega
  · exact fits_0 i s n p c w
  · exact fits_1 i s n p c w
  · exact fits_2 i s n p c w
  · exact fits_3 i s n p c w
end Go.Proofs.YtfonicphdejdlaaGreat

namespace Go.Proofs.YtfonicphdejdlaaGreat
open Go.RowKit

/-- item by item, till one is wrong: what is wrong, and how many parts were looked at -/
def stepN (g : Nat → Nat → Nat × Nat) (m : Nat) : Nat → Nat × Nat
  | 0 => (0, m)
  | j + 1 => if (stepN g m j).1 = 0 then g j (stepN g m j).2 else stepN g m j
/-- what is wrong with a part that stands in d lists, m parts having been looked at -/
def chk : VT → Nat → Nat → Nat × Nat
  | .nil, _, m => if 12 ≤ m then (22, m + 1) else (0, m + 1)
  | .mk k i s n _ _ f, d, m =>
    if 12 ≤ m then (22, m + 1) else if fitB k i s n = false then (20, m + 1) else if k = 3 ∧ 3 ≤ d then (23, m + 1) else if 24 < s.size then (21, m + 1) else if 6 < n then (22, m + 1)
    else stepN (fun j m => chk (f j) (d + 1) m) (m + 1) n

theorem chk_eq (k i : Int) (s : ByteArray) (n : Nat) (p : Option Addr) (c : Nat) (f : Nat → VT) (d m : Nat) : chk (.mk k i s n p c f) d m =
    if 12 ≤ m then (22, m + 1) else if fitB k i s n = false then (20, m + 1) else if k = 3 ∧ 3 ≤ d then (23, m + 1) else if 24 < s.size then (21, m + 1) else if 6 < n then (22, m + 1)
    else stepN (fun j m => chk (f j) (d + 1) m) (m + 1) n := rfl
theorem stepN_stuck {g : Nat → Nat → Nat × Nat} {m : Nat} : ∀ {n j : Nat}, j ≤ n → (stepN g m j).1 ≠ 0 → stepN g m n = stepN g m j := by
  intro n
  induction n with
  | zero =>
    intro j h _
    obtain rfl : j = 0 := by omega
    rfl
  | succ n ih =>
    intro j h hne
    by_cases hj : j = n + 1
    · rw [hj]
    · have e := ih (show j ≤ n by omega) hne
      show (if (stepN g m n).1 = 0 then _ else stepN g m n) = _
      rw [e, if_neg hne]
theorem stepN_succ {g : Nat → Nat → Nat × Nat} {m j : Nat} (h : (stepN g m j).1 = 0) : stepN g m (j + 1) = g j (stepN g m j).2 := by
  show (if _ then _ else _) = _
  rw [if_pos h]
theorem stepN_le {g : Nat → Nat → Nat × Nat} (hg : ∀ j m, m ≤ 12 → (g j m).2 ≤ 13 ∧ ((g j m).1 = 0 → (g j m).2 ≤ 12)) {m : Nat} (hm : m ≤ 12) : ∀ n, (stepN g m n).2 ≤ 13 ∧ ((stepN g m n).1 = 0 → (stepN g m n).2 ≤ 12) := by
  intro n
  induction n with
  | zero => exact ⟨by show m ≤ 13; omega, fun _ => hm⟩
  | succ n ih =>
    by_cases h : (stepN g m n).1 = 0
    · rw [stepN_succ h]; exact hg n _ (ih.2 h)
    · rw [stepN_stuck (Nat.le_succ n) h]; exact ih
theorem chk_le : ∀ (t : VT) (d m : Nat), m ≤ 12 → (chk t d m).2 ≤ 13 ∧ ((chk t d m).1 = 0 → (chk t d m).2 ≤ 12) := by
  intro t
  induction t with
  | nil =>
    intro d m hm
    unfold chk
    by_cases h1 : 12 ≤ m
    · rw [if_pos h1]; exact ⟨by simp only; omega, fun h => by simp at h⟩
    · rw [if_neg h1]; exact ⟨by simp only; omega, fun _ => by simp only; omega⟩
  | mk k i s n p c f ih =>
    intro d m hm
    rw [chk_eq]
    by_cases h1 : 12 ≤ m
    · rw [if_pos h1]; exact ⟨by simp only; omega, fun h => by simp at h⟩
    rw [if_neg h1]
    by_cases h2 : fitB k i s n = false
    · rw [if_pos h2]; exact ⟨by simp only; omega, fun h => by simp at h⟩
    rw [if_neg h2]
    by_cases h3 : k = 3 ∧ 3 ≤ d
    · rw [if_pos h3]; exact ⟨by simp only; omega, fun h => by simp at h⟩
    rw [if_neg h3]
    by_cases h4 : 24 < s.size
    · rw [if_pos h4]; exact ⟨by simp only; omega, fun h => by simp at h⟩
    rw [if_neg h4]
    by_cases h5 : 6 < n
    · rw [if_pos h5]; exact ⟨by simp only; omega, fun h => by simp at h⟩
    rw [if_neg h5]
    exact stepN_le (fun j m hm => ih j (d + 1) m hm) (by omega) n
theorem stepN_congr {g h : Nat → Nat → Nat × Nat} {m : Nat} : ∀ n, (∀ j, j < n → ∀ m, g j m = h j m) → stepN g m n = stepN h m n := by
  intro n
  induction n with
  | zero => intro _; rfl
  | succ n ih =>
    intro e
    have e1 := ih fun j hj m => e j (by omega) m
    show (if (stepN g m n).1 = 0 then g n (stepN g m n).2 else stepN g m n) = (if (stepN h m n).1 = 0 then h n (stepN h m n).2 else stepN h m n)
    rw [e1, e n (by omega)]
theorem chk_alike : ∀ (t u : VT) (d m : Nat), VT.Alike t u → chk t d m = chk u d m := by
  intro t
  induction t with
  | nil => intro u d m h; rw [show u = .nil from h]
  | mk k i s n p c f ih =>
    intro u d m h
    by_cases hu : u = .nil
    · subst hu
      obtain ⟨h1, h2, h3, h4, _⟩ := h
      subst h1 h2 h3 h4
      rw [chk_eq]
      unfold chk
      by_cases h1 : 12 ≤ m
      · rw [if_pos h1, if_pos h1]
      · rw [if_neg h1, if_neg h1, if_neg (by simp [fitB, VT.kind, VT.int, VT.text, VT.n]), if_neg (by simp [VT.kind]), if_neg (by simp [VT.text]; decide), if_neg (by simp [VT.n])]
        rfl
    obtain ⟨k2, i2, s2, p2, c2, f2, rfl⟩ : ∃ k2 i2 s2 p2 c2 f2, u = .mk k2 i2 s2 n p2 c2 f2 := by
      cases u with
      | nil => exact absurd rfl hu
      | mk k2 i2 s2 n2 p2 c2 f2 => exact ⟨k2, i2, s2, p2, c2, f2, by rw [show n2 = n from h.n]⟩
    obtain ⟨h1, h2, h3, _, hal⟩ := h
    simp only [VT.kind_mk, VT.int_mk, VT.text_mk, VT.item_mk] at h1 h2 h3 hal
    subst h1 h2 h3
    rw [chk_eq, chk_eq]
    rw [stepN_congr n (fun j hj m => ih j (f2 j) (d + 1) m (hal j hj))]
end Go.Proofs.YtfonicphdejdlaaGreat

namespace Go.Proofs.YtfonicphdejdlaaGreat
open Go.RowKit
set_option maxRecDepth 8000

/-- a part of a value, as the reference keeps it -/
structure PT where
  kind : Int
  int : Int
  text : ByteArray
  n : Nat
def PT.cells (q : PT) : List Value := [.int .i64 q.kind, .int .i64 q.int, .string q.text, .int .i64 q.n]
/-- the cells of parts -/
def ptCells (l : List PT) : List Value := l.flatMap PT.cells
/-- the parts of t, from the left -/
def flatP : VT → List PT
  | .nil => [⟨0, 0, ⟨#[]⟩, 0⟩]
  | .mk k i s n _ _ f => ⟨k, i, s, n⟩ :: (List.range n).flatMap fun j => flatP (f j)
theorem flatP_eq (k i : Int) (s : ByteArray) (n : Nat) (p : Option Addr) (c : Nat) (f : Nat → VT) : flatP (.mk k i s n p c f) = ⟨k, i, s, n⟩ :: (List.range n).flatMap fun j => flatP (f j) := rfl
/-- the parts of the first j items -/
def flatN (f : Nat → VT) (j : Nat) : List PT := (List.range j).flatMap fun j => flatP (f j)
theorem flatN_succ (f : Nat → VT) (j : Nat) : flatN f (j + 1) = flatN f j ++ flatP (f j) := by simp [flatN, List.range_succ, List.flatMap_append]

/-- where nothing is wrong, as many parts were looked at as there are -/
theorem chk_len : ∀ (t : VT) (d m : Nat), (chk t d m).1 = 0 → (chk t d m).2 = m + (flatP t).length := by
  intro t
  induction t with
  | nil =>
    intro d m
    unfold chk
    by_cases h1 : 12 ≤ m
    · rw [if_pos h1]; intro h; simp at h
    · rw [if_neg h1]; intro _; rfl
  | mk k i s n p c f ih =>
    intro d m
    rw [chk_eq, flatP_eq]
    have key : ∀ j, (stepN (fun j m => chk (f j) (d + 1) m) (m + 1) j).1 = 0 → (stepN (fun j m => chk (f j) (d + 1) m) (m + 1) j).2 = m + 1 + (flatN f j).length := by
      intro j
      induction j with
      | zero => intro _; rfl
      | succ j ihj =>
        by_cases h : (stepN (fun j m => chk (f j) (d + 1) m) (m + 1) j).1 = 0
        · rw [stepN_succ h]
          intro h2
          rw [ih j _ _ h2, ihj h, flatN_succ, List.length_append]; omega
        · rw [stepN_stuck (Nat.le_succ j) h]
          intro h2; exact absurd h2 h
    by_cases h1 : 12 ≤ m
    · rw [if_pos h1]; intro h; simp at h
    rw [if_neg h1]
    by_cases h2 : fitB k i s n = false
    · rw [if_pos h2]; intro h; simp at h
    rw [if_neg h2]
    by_cases h3 : k = 3 ∧ 3 ≤ d
    · rw [if_pos h3]; intro h; simp at h
    rw [if_neg h3]
    by_cases h4 : 24 < s.size
    · rw [if_pos h4]; intro h; simp at h
    rw [if_neg h4]
    by_cases h5 : 6 < n
    · rw [if_pos h5]; intro h; simp at h
    rw [if_neg h5]
    intro h
    rw [key n h]
    simp only [List.length_cons, flatN]; omega

/-- what flat leaves: the list is where it was or in new memory; nothing else is changed -/
structure Laid (w w' : World) (v v' : Value) : Prop where
  near : Near w v v'
  but : But (fun k => v.ownBlock = some k) w w'
theorem Laid.refl (w : World) (v : Value) : Laid w w v v := ⟨.inl rfl, But.refl _ _⟩
theorem Laid.trans {a b c : World} {u v x : Value} (h : Laid a b u v) (k : Laid b c v x) : Laid a c u x := by
  refine ⟨?_, ?_⟩
  · rcases k.near with e | e
    · rcases h.near with e2 | e2
      · exact .inl (e.trans e2)
      · exact .inr fun g hg => e2 g (e ▸ hg)
    · exact .inr fun g hg => Nat.le_trans h.but.size (e g hg)
  · refine ⟨k.but.os.trans h.but.os, k.but.tape.trans h.but.tape, k.but.output.trans h.but.output, Nat.le_trans h.but.size k.but.size, fun q hq hx => ?_⟩
    refine (k.but.block q (Nat.lt_of_lt_of_le hq h.but.size) fun e => ?_).trans (h.but.block q hq hx)
    rcases h.near with e2 | e2
    · exact hx (e2 ▸ e)
    · have := e2 q e; omega
theorem Laid.below {w w1 w' : World} {v v' : Value} (h : Laid w w1 v v') (hb : Below w1.heap.size w1 w') : Laid w w' v v' := h.trans ⟨.inl rfl, But.ofBelow hb⟩
end Go.Proofs.YtfonicphdejdlaaGreat
