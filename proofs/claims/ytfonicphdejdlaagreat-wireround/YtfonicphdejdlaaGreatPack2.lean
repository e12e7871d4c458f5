import Derived.Test.YtfonicphdejdlaaGreatPack1
import Derived.Test.YtfonicphdejdlaaGreatPack0
import Derived.Lib.AppendStr
namespace Go.Proofs.YtfonicphdejdlaaGreat
open Go.RowKit
set_option maxRecDepth 8000

/-- a part of a value, as the reference keeps it -/
structure PT where
  kind : Int
  int : Int
  text : ByteArray
  n : Nat
def PT.cells (q : PT) : List Value := [.int .i64 q.kind, .int .i64 q.int, .string q.text, .int .i64 q.n]
/-- the cells of parts -/
def ptCells (l : List PT) : List Value := l.flatMap PT.cells
/-- the parts of t, from the left -/
def flatP : VT → List PT
  | .nil => [⟨0, 0, ⟨#[]⟩, 0⟩]
  | .mk k i s n _ _ f => ⟨k, i, s, n⟩ :: (List.range n).flatMap fun j => flatP (f j)
theorem flatP_eq (k i : Int) (s : ByteArray) (n : Nat) (p : Option Addr) (c : Nat) (f : Nat → VT) : flatP (.mk k i s n p c f) = ⟨k, i, s, n⟩ :: (List.range n).flatMap fun j => flatP (f j) := rfl
/-- the parts of the first j items -/
def flatN (f : Nat → VT) (j : Nat) : List PT := (List.range j).flatMap fun j => flatP (f j)
theorem flatN_succ (f : Nat → VT) (j : Nat) : flatN f (j + 1) = flatN f j ++ flatP (f j) := by simp [flatN, List.range_succ, List.flatMap_append]

/-- where nothing is wrong, as many parts were looked at as there are -/
theorem chk_len : ∀ (t : VT) (d m : Nat), (chk t d m).1 = 0 → (chk t d m).2 = m + (flatP t).length := by
  intro t
  induction t with
  | nil =>
    intro d m
    unfold chk
    by_cases h1 : 12 ≤ m
    · rw [if_pos h1]; intro h; simp at h
    · rw [if_neg h1]; intro _; rfl
  | mk k i s n p c f ih =>
    intro d m
    rw [chk_eq, flatP_eq]
    have key : ∀ j, (stepN (fun j m => chk (f j) (d + 1) m) (m + 1) j).1 = 0 → (stepN (fun j m => chk (f j) (d + 1) m) (m + 1) j).2 = m + 1 + (flatN f j).length := by
      intro j
      induction j with
      | zero => intro _; rfl
      | succ j ihj =>
        by_cases h : (stepN (fun j m => chk (f j) (d + 1) m) (m + 1) j).1 = 0
        · rw [stepN_succ h]
          intro h2
          rw [ih j _ _ h2, ihj h, flatN_succ, List.length_append]; omega
        · rw [stepN_stuck (Nat.le_succ j) h]
          intro h2; exact absurd h2 h
    by_cases h1 : 12 ≤ m
    · rw [if_pos h1]; intro h; simp at h
    rw [if_neg h1]
    by_cases h2 : fitB k i s n = false
    · rw [if_pos h2]; intro h; simp at h
    rw [if_neg h2]
    by_cases h3 : k = 3 ∧ 3 ≤ d
    · rw [if_pos h3]; intro h; simp at h
    rw [if_neg h3]
    by_cases h4 : 24 < s.size
    · rw [if_pos h4]; intro h; simp at h
    rw [if_neg h4]
    by_cases h5 : 6 < n
    · rw [if_pos h5]; intro h; simp at h
    rw [if_neg h5]
    intro h
    rw [key n h]
    simp only [List.length_cons, flatN]; omega

/-- what flat leaves: the list is where it was or in new memory; nothing else is changed -/
structure Laid (w w' : World) (v v' : Value) : Prop where
  near : Near w v v'
  but : But (fun k => v.ownBlock = some k) w w'
theorem Laid.refl (w : World) (v : Value) : Laid w w v v := ⟨.inl rfl, But.refl _ _⟩
theorem Laid.trans {a b c : World} {u v x : Value} (h : Laid a b u v) (k : Laid b c v x) : Laid a c u x := by
  refine ⟨?_, ?_⟩
  · rcases k.near with e | e
    · rcases h.near with e2 | e2
      · exact .inl (e.trans e2)
      · exact .inr fun g hg => e2 g (e ▸ hg)
    · exact .inr fun g hg => Nat.le_trans h.but.size (e g hg)
  · refine ⟨k.but.os.trans h.but.os, k.but.tape.trans h.but.tape, k.but.output.trans h.but.output, Nat.le_trans h.but.size k.but.size, fun q hq hx => ?_⟩
    refine (k.but.block q (Nat.lt_of_lt_of_le hq h.but.size) fun e => ?_).trans (h.but.block q hq hx)
    rcases h.near with e2 | e2
    · exact hx (e2 ▸ e)
    · have := e2 q e; omega
theorem Laid.below {w w1 w' : World} {v v' : Value} (h : Laid w w1 v v') (hb : Below w1.heap.size w1 w') : Laid w w' v v' := h.trans ⟨.inl rfl, But.ofBelow hb⟩
end Go.Proofs.YtfonicphdejdlaaGreat

namespace Go.Proofs.YtfonicphdejdlaaGreat
open Go.RowKit

/-- the first that is not 0 of the first j -/
def firstN (g : Nat → Int) : Nat → Int
  | 0 => 0
  | j + 1 => if firstN g j ≠ 0 then firstN g j else g j
/-- the order of two valid values -/
def ordV : VT → VT → Int
  | .nil, _ => 0
  | .mk k i s n _ _ f, u => if k ≠ u.kind then cmpI k u.kind else if k = 1 then cmpI i u.int else if k = 2 then cmpS s u.text
    else if firstN (fun j => ordV (f j) (u.item j)) (min n u.n) ≠ 0 then firstN (fun j => ordV (f j) (u.item j)) (min n u.n) else cmpI n u.n
theorem ordV_eq (k i : Int) (s : ByteArray) (n : Nat) (p : Option Addr) (c : Nat) (f : Nat → VT) (u : VT) : ordV (.mk k i s n p c f) u = if k ≠ u.kind then cmpI k u.kind else if k = 1 then cmpI i u.int else if k = 2 then cmpS s u.text
    else if firstN (fun j => ordV (f j) (u.item j)) (min n u.n) ≠ 0 then firstN (fun j => ordV (f j) (u.item j)) (min n u.n) else cmpI n u.n := rfl
theorem firstN_stuck {g : Nat → Int} : ∀ {n j : Nat}, j ≤ n → firstN g j ≠ 0 → firstN g n = firstN g j := by
  intro n
  induction n with
  | zero =>
    intro j h _
    obtain rfl : j = 0 := by omega
    rfl
  | succ n ih =>
    intro j h hne
    by_cases hj : j = n + 1
    · rw [hj]
    · have e := ih (show j ≤ n by omega) hne
      show (if firstN g n ≠ 0 then firstN g n else g n) = _
      rw [e, if_pos hne]
theorem firstN_succ {g : Nat → Int} {j : Nat} (h : firstN g j = 0) : firstN g (j + 1) = g j := by
  show (if firstN g j ≠ 0 then firstN g j else g j) = _
  rw [if_neg (by simpa using h)]
theorem firstN_congr {g h : Nat → Int} : ∀ n, (∀ j, j < n → g j = h j) → firstN g n = firstN h n := by
  intro n
  induction n with
  | zero => intro _; rfl
  | succ n ih =>
    intro e
    show (if firstN g n ≠ 0 then firstN g n else g n) = (if firstN h n ≠ 0 then firstN h n else h n)
    rw [ih fun j hj => e j (by omega), e n (by omega)]
/-- none -/
def zeroT : VT := .mk 0 0 ⟨#[]⟩ 0 none 0 (fun _ => .nil)
/-- a value, or none if it isn't valid -/
def cleanT (t : VT) : VT := if (chk t 0 0).1 = 0 then t else zeroT
theorem zeroT_in (w : World) (S : Nat → Prop) : VT.In w S zeroT := by
  refine ⟨⟨?_, ?_, ?_, ?_, ?_, Nat.le_refl 0, ?_, Nat.zero_le _, fun _ => ⟨rfl, rfl⟩⟩, fun h => absurd h (by omega), fun j hj => absurd hj (by omega)⟩
  · show (-9223372036854775808 : Int) ≤ 0; omega
  · show (0 : Int) ≤ 9223372036854775807; omega
  · show (-9223372036854775808 : Int) ≤ 0; omega
  · show (0 : Int) ≤ 9223372036854775807; omega
  · show (⟨#[]⟩ : ByteArray).size ≤ 140737488355328; decide
  · show 0 ≤ 140737488355328; omega
theorem cleanT_in {w : World} {S : Nat → Prop} {t : VT} (h : VT.In w S t) : VT.In w S (cleanT t) := by
  unfold cleanT
  split
  · exact h
  · exact zeroT_in w S
end Go.Proofs.YtfonicphdejdlaaGreat

namespace Go.Proofs.YtfonicphdejdlaaGreat
open Go.RowKit
set_option maxRecDepth 8000
/-- valid, without a look at the number of parts -/
def Val : VT → Prop
  | .nil => False
  | .mk k i s n _ _ f => (fitB k i s n = true ∧ s.size ≤ 24 ∧ n ≤ 6 ∧ -9223372036854775808 ≤ i ∧ i ≤ 9223372036854775807) ∧ ∀ j, j < n → Val (f j)
theorem val_of {w : World} {S : Nat → Prop} : ∀ (t : VT) (d m : Nat), VT.In w S t → (chk t d m).1 = 0 → Val t := by
  intro t
  induction t with
  | nil => intro d m h; exact h.elim
  | mk k i s n p c f ih =>
    intro d m hin h
    rw [chk_eq] at h
    by_cases h1 : 12 ≤ m
    · rw [if_pos h1] at h; simp at h
    rw [if_neg h1] at h
    by_cases h2 : fitB k i s n = false
    · rw [if_pos h2] at h; simp at h
    rw [if_neg h2] at h
    by_cases h3 : k = 3 ∧ 3 ≤ d
    · rw [if_pos h3] at h; simp at h
    rw [if_neg h3] at h
    by_cases h4 : 24 < s.size
    · rw [if_pos h4] at h; simp at h
    rw [if_neg h4] at h
    by_cases h5 : 6 < n
    · rw [if_pos h5] at h; simp at h
    rw [if_neg h5] at h
    refine ⟨⟨by simpa using h2, by omega, by omega, hin.fit.i0, hin.fit.i1⟩, fun j hj => ?_⟩
    have e : ∀ q, q ≤ n → (stepN (fun j m => chk (f j) (d + 1) m) (m + 1) q).1 = 0 := by
      intro q hq
      by_cases hz : (stepN (fun j m => chk (f j) (d + 1) m) (m + 1) q).1 = 0
      · exact hz
      · rw [stepN_stuck hq hz] at h; exact absurd h hz
    have e1 := e (j + 1) hj
    rw [stepN_succ (e j (by omega))] at e1
    exact ih j _ _ (hin.sub hj) e1
theorem zero_val : Val zeroT := ⟨⟨by simp [fitB], by decide, by omega, by omega, by omega⟩, fun j hj => absurd hj (by omega)⟩
theorem clean_val {w : World} {S : Nat → Prop} {t : VT} (h : VT.In w S t) : Val (cleanT t) := by
  unfold cleanT
  split
  · rename_i hc; exact val_of t 0 0 h hc
  · exact zero_val
end Go.Proofs.YtfonicphdejdlaaGreat

namespace Go.Proofs.YtfonicphdejdlaaGreat
open Go.RowKit
set_option maxRecDepth 8000

/-- a number in groups of seven bits -/
def grpB (u : Nat) : List Int := if u < 128 then [(u : Int)] else ((u % 128 + 128 : Nat) : Int) :: grpB (u / 128)
termination_by u
decreasing_by omega
theorem grpB_small {u : Nat} (h : u < 128) : grpB u = [(u : Int)] := by rw [grpB, if_pos h]
theorem grpB_great {u : Nat} (h : ¬ u < 128) : grpB u = ((u % 128 + 128 : Nat) : Int) :: grpB (u / 128) := by rw [grpB, if_neg h]
theorem grpB_len : ∀ (k u : Nat), u < 128 ^ (k + 1) → (grpB u).length ≤ k + 1 := by
  intro k
  induction k with
  | zero => intro u h; rw [grpB_small (by simpa using h)]; simp
  | succ k ih =>
    intro u h
    by_cases hu : u < 128
    · rw [grpB_small hu]; simp
    · rw [grpB_great hu]
      have h1 : u / 128 < 128 ^ (k + 1) := by
        rw [Nat.div_lt_iff_lt_mul (by omega)]
        rw [Nat.pow_succ] at h
        exact h
      have := ih _ h1
      simp
      omega
/-- the number that an int is folded to -/
def foldN (i : Int) : Nat := if i < 0 then 2 * (-1 - i).toNat + 1 else 2 * i.toNat
/-- a text's bytes -/
def txtB (s : ByteArray) : List Int := s.data.toList.map fun b => (b.toNat : Int)
/-- a value's bytes -/
def encB : VT → List Int
  | .nil => [0]
  | .mk k i s n _ _ f => k :: (if k = 1 then grpB (foldN i) else if k = 2 then (s.size : Int) :: txtB s else if k = 3 then (n : Int) :: (List.range n).flatMap fun j => encB (f j) else [])
theorem encB_eq (k i : Int) (s : ByteArray) (n : Nat) (p : Option Addr) (c : Nat) (f : Nat → VT) : encB (.mk k i s n p c f) = k :: (if k = 1 then grpB (foldN i) else if k = 2 then (s.size : Int) :: txtB s else if k = 3 then (n : Int) :: (List.range n).flatMap fun j => encB (f j) else []) := rfl
/-- a part's bytes -/
def encP (q : PT) : List Int := q.kind :: (if q.kind = 1 then grpB (foldN q.int) else if q.kind = 2 then (q.text.size : Int) :: txtB q.text else if q.kind = 3 then [(q.n : Int)] else [])
theorem strCells_txt (s : ByteArray) : Go.Lib.strCells s = (txtB s).map (Value.int .u8) := by
  simp [Go.Lib.strCells, txtB, List.map_map, Function.comp_def]
theorem txtB_len (s : ByteArray) : (txtB s).length = s.size := by
  unfold txtB
  rw [List.length_map, Array.length_toList]
  rfl
theorem enc_flat : ∀ t : VT, Val t → (flatP t).flatMap encP = encB t := by
  intro t
  induction t with
  | nil => intro h; exact h.elim
  | mk k i s n p c f ih =>
    intro h
    obtain ⟨⟨h1, _⟩, h2⟩ := h
    rw [flatP_eq, encB_eq, List.flatMap_cons]
    have h3 : ((List.range n).flatMap fun j => flatP (f j)).flatMap encP = (List.range n).flatMap fun j => encB (f j) := by
      rw [List.flatMap_assoc, List.flatMap_def, List.flatMap_def]
      congr 1
      apply List.map_congr_left
      intro j hj
      exact ih j (h2 j (List.mem_range.1 hj))
    rw [h3]
    by_cases hk : k = 3
    · subst hk
      simp [encP]
    · have hn : n = 0 := by
        simp only [fitB, Bool.and_eq_true, Bool.or_eq_true, decide_eq_true_eq] at h1
        rcases h1.2 with h | h
        · exact h
        · exact absurd h hk
      subst hn
      simp [encP, hk]
theorem foldN_lt {i : Int} (h1 : -9223372036854775808 ≤ i) (h2 : i ≤ 9223372036854775807) : foldN i < 18446744073709551616 := by
  unfold foldN; split <;> omega
theorem grp_fold_len {i : Int} (h1 : -9223372036854775808 ≤ i) (h2 : i ≤ 9223372036854775807) : (grpB (foldN i)).length ≤ 10 :=
  grpB_len 9 _ (Nat.lt_of_lt_of_le (foldN_lt h1 h2) (by decide))
theorem encP_len {t : VT} (h : Val t) : ∀ q ∈ flatP t, (encP q).length ≤ 60 := by
  induction t with
  | nil => exact h.elim
  | mk k i s n p c f ih =>
    obtain ⟨⟨h1, h2, h3, h4, h5⟩, h6⟩ := h
    intro q hq
    rw [flatP_eq, List.mem_cons] at hq
    rcases hq with rfl | hq
    · have := grp_fold_len h4 h5
      have := txtB_len s
      simp only [encP]
      split
      · simp; omega
      · split
        · simp; omega
        · split <;> simp
    · obtain ⟨j, hj, hq⟩ := List.mem_flatMap.1 hq
      exact ih j (h6 j (List.mem_range.1 hj)) q hq
theorem flatMap_le {α β : Type} (g : α → List β) (m : Nat) : ∀ l : List α, (∀ q ∈ l, (g q).length ≤ m) → (l.flatMap g).length ≤ m * l.length := by
  intro l
  induction l with
  | nil => intro _; simp
  | cons a r ih =>
    intro h
    have h1 := h a (List.mem_cons_self ..)
    have h2 := ih fun q hq => h q (List.mem_cons_of_mem _ hq)
    rw [List.flatMap_cons, List.length_append, List.length_cons, Nat.mul_succ]
    omega
theorem enc_len {t : VT} (h : Val t) : (encB t).length ≤ 60 * (flatP t).length := by
  rw [← enc_flat t h]; exact flatMap_le _ _ _ (encP_len h)

theorem or128 (u : Nat) : (u % 256) ||| 128 = u % 128 + 128 := by
  have h : ∀ v : Nat, v < 256 → v ||| 128 = v % 128 + 128 := by decide
  rw [h _ (Nat.mod_lt _ (by omega))]
  omega
theorem bits_or128 (u : Nat) : bits BinOp.or IntKind.u8 ((u % 256 : Nat) : Int) 128 = ((u % 128 + 128 : Nat) : Int) := by
  rw [← or128]
  have h : ∀ v : Nat, v < 256 → bits BinOp.or IntKind.u8 (v : Int) 128 = ((v ||| 128 : Nat) : Int) := by decide
  exact h _ (Nat.mod_lt _ (by omega))
end Go.Proofs.YtfonicphdejdlaaGreat

namespace Go.Proofs.YtfonicphdejdlaaGreat
open Go.RowKit
set_option maxRecDepth 8000

theorem compl64 (X : Nat) (h : X < 2 ^ 64) : (2 ^ 64 - 1) ^^^ X = 2 ^ 64 - (X + 1) := by
  apply Nat.eq_of_testBit_eq
  intro i
  rw [Nat.testBit_xor, Nat.testBit_two_pow_sub_one, Nat.testBit_two_pow_sub_succ h]
  by_cases hi : i < 64
  · simp [hi]
  · have hx : X.testBit i = false := Nat.testBit_lt_two_pow (Nat.lt_of_lt_of_le h (Nat.pow_le_pow_right (by omega) (by omega)))
    simp [hi, hx]
theorem or_one (Y : Nat) : (2 * Y) ||| 1 = 2 * Y + 1 := by
  have := Nat.shiftLeft_add_eq_or_of_lt (b := 1) (i := 1) (by omega) Y
  rw [Nat.shiftLeft_eq] at this
  rw [Nat.mul_comm, show Y * 2 = Y * 2 ^ 1 from rfl, ← this]
theorem fold_neg (i : Int) (h1 : -9223372036854775808 ≤ i) (h : i < 0) :
    bits BinOp.or IntKind.u64 (IntKind.u64.wrap (bits BinOp.xor IntKind.u64 IntKind.u64.max (IntKind.u64.wrap i) * 2)) 1 = ((foldN i : Nat) : Int) := by
  obtain ⟨X, hX⟩ := Int.eq_ofNat_of_zero_le (show 0 ≤ i + 18446744073709551616 by omega)
  have e : IntKind.u64.wrap i = (X : Int) := by rw [wrap_u64]; omega
  have hm : IntKind.u64.max = ((18446744073709551615 : Nat) : Int) := by decide
  have h2 := bits_xor_u64_nat 18446744073709551615 X (by omega) (by omega)
  have h3 : 18446744073709551615 ^^^ X = 18446744073709551616 - (X + 1) := compl64 X (by omega)
  rw [h3] at h2
  rw [e, hm, h2]
  obtain ⟨Y, hY⟩ : ∃ Y : Nat, Y = 18446744073709551616 - (X + 1) := ⟨_, rfl⟩
  rw [← hY]
  have e2 : IntKind.u64.wrap ((Y : Int) * 2) = ((2 * Y : Nat) : Int) := by rw [wrap_u64]; omega
  have h4 := bits_or_u64_nat (2 * Y) 1 (by omega) (by omega)
  rw [or_one] at h4
  rw [e2]
  have h5 : foldN i = 2 * Y + 1 := by unfold foldN; rw [if_pos h]; omega
  rw [h5]
  exact h4

set_option maxHeartbeats 1000000 in
theorem fold_any (i : Int) (h1 : -9223372036854775808 ≤ i) (h2 : i ≤ 9223372036854775807) (w : World) :
    Calls Tryz.prog 126 #[.int .i64 i] w fun e w' => e = .returned (.int .u64 (foldN i)) ∧ w' = w := by
  by_cases h : i < 0
  · have e := fold_neg i h1 h
    go_enter Tryz.func126, Tryz.ntmps126
    go_wp2
    go_ret
    exact ⟨by first | rfl | (rw [← e]; rfl), rfl⟩
  · have e : ((foldN i : Nat) : Int) = i * 2 := by unfold foldN; rw [if_neg h]; omega
    go_enter Tryz.func126, Tryz.ntmps126
    go_wp2
    go_ret
    exact ⟨by first | rfl | (rw [e]; rfl), rfl⟩

theorem one8 (x : Int) : ∀ u ∈ [Value.int .u8 x], u.oneCell' = true := by
  intro u hu
  simp only [List.mem_singleton] at hu
  subst hu
  rfl
/-- one more byte -/
theorem OwnBy.one {base : Nat} {w w' : World} {v v' : Value} {zs : List Int} {x : Int} (h : OwnBy base w v zs) (ho : w'.ownsRow base 5 1 v' (zs.length + 1) (zs.map (Value.int .u8) ++ [.int .u8 x])) : OwnBy base w' v' (zs ++ [x]) := h.app (ys := [x]) ho
theorem below_row {base : Nat} {w w1 w2 : World} {v : Value} {zs : List Int} (hb : Below base w w1) (hB : base ≤ w1.heap.size) (hv : OwnBy base w1 v zs) (o : Obj) (hg : (w1.alloc o).grownBy w2 v.ownBlock) : Below base w w2 :=
  (hb.trans (((Below.refl w1.heap.size w1).alloc (Nat.le_refl _) o).mono hB)).grown hg (by simp; omega) (fun k hk => (World.ownsRow.lt hv k hk).1)

/-- what is no row of bytes stays -/
def KeepN (w w' : World) : Prop := ∀ (B : Nat) (o : Obj), (∀ cs z, o ≠ Obj.cells cs 5 z) → w.heap[B]? = some o → w'.heap[B]? = some o
theorem KeepN.refl (w : World) : KeepN w w := fun _ _ _ h => h
theorem KeepN.trans {a b c : World} (h : KeepN a b) (k : KeepN b c) : KeepN a c := fun B o he hb => k B o he (h B o he hb)
theorem KeepN.below {w w' : World} (h : Below w.heap.size w w') : KeepN w w' := fun B o _ hb => by
  have hl : B < w.heap.size := by
    rcases Nat.lt_or_ge B w.heap.size with h1 | h1
    · exact h1
    · rw [Array.getElem?_eq_none h1] at hb; cases hb
  rw [h.block B hl]; exact hb
theorem KeepN.box {w w' : World} (h : KeepN w w') {B : Nat} {cs : Array Value} {e : TypeId} (he : e ≠ 5) (hb : Box w B cs e) : Box w' B cs e := h B _ (fun cs2 z e2 => by simp only [Obj.cells.injEq] at e2; exact he e2.2.1) hb
theorem KeepN.grown {base : Nat} {w w' : World} {v : Value} {zs : List Int} (hv : OwnBy base w v zs) (hg : w.grownBy w' v.ownBlock) : KeepN w w' := fun B o he hb => by
  have hl : B < w.heap.size := by
    rcases Nat.lt_or_ge B w.heap.size with h1 | h1
    · exact h1
    · rw [Array.getElem?_eq_none h1] at hb; cases hb
  refine (hg.block B hl fun hB => ?_).trans hb
  obtain ⟨_, ⟨hv2, _⟩ | ⟨g, cap, cur, hv2, _, hh, _⟩⟩ := id hv
  · rw [hv2] at hB; cases hB
  · rw [hv2] at hB
    have e1 : B = g := by simpa [Value.ownBlock] using hB
    rw [e1, hh] at hb
    simp only [Option.some.injEq] at hb
    exact he _ _ hb.symm
/-- bytes laid behind a row -/
structure LayB (base : Nat) (w : World) (zs : List Int) (v' : Value) (w' : World) : Prop where
  own : OwnBy base w' v' zs
  bel : Below base w w'
  keep : KeepN w w'
theorem LayB.refl {base : Nat} {w : World} {v : Value} {zs : List Int} (h : OwnBy base w v zs) : LayB base w zs v w := ⟨h, Below.refl _ _, KeepN.refl _⟩
theorem LayB.lift {base : Nat} {a w w' : World} {v' : Value} {zs : List Int} (h : LayB base w zs v' w') (hb : Below base a w) (hk : KeepN a w) : LayB base a zs v' w' := ⟨h.own, hb.trans h.bel, hk.trans h.keep⟩
/-- one byte more, by an append of a new list -/
theorem LayB.one {base : Nat} {a w w' : World} {v v' : Value} {zs : List Int} {x : Int} (h : LayB base a zs v w) (hB : base ≤ w.heap.size) (ho : w'.ownsRow base 5 1 v' (zs.length + 1) (zs.map (Value.int .u8) ++ [.int .u8 x])) (hg : (w.alloc (.cells #[.int .u8 x] 5)).grownBy w' v.ownBlock) : LayB base a (zs ++ [x]) v' w' :=
  ⟨h.own.one ho, below_row h.bel hB h.own _ hg, (h.keep.trans (KeepN.below ((Below.refl _ _).alloc (Nat.le_refl _) _))).trans (KeepN.grown (h.own.below ((Below.refl _ _).alloc (Nat.le_refl _) _)) hg)⟩
/-- a text's bytes more -/
theorem LayB.text {base : Nat} {a w w' : World} {v v' : Value} {zs : List Int} {s : ByteArray} (h : LayB base a zs v w) (hB : base ≤ w.heap.size) (ho : w'.ownsRow base 5 1 v' (zs.length + s.size) (zs.map (Value.int .u8) ++ Go.Lib.strCells s)) (hg : w.grownBy w' v.ownBlock) : LayB base a (zs ++ txtB s) v' w' :=
  ⟨h.own.app (by rw [← strCells_txt, txtB_len]; exact ho), h.bel.grown hg hB (fun k hk => (World.ownsRow.lt h.own k hk).1), h.keep.trans (KeepN.grown h.own hg)⟩
def EPost (base : Nat) (w : World) (zs : List Int) (e : Ending) (w' : World) : Prop := ∃ v', e = .returned v' ∧ LayB base w zs v' w'

set_option maxHeartbeats 1000000 in
theorem appendGroups_any (u : Nat) (hu : u < 18446744073709551616) (base : Nat) (w : World) (v : Value) (zs : List Int) (hv : OwnBy base w v zs) (hb : base ≤ w.heap.size) (hz : zs.length ≤ 90000) :
    Calls Tryz.prog 125 #[v, .int .u64 u] w fun e w' => EPost base w (zs ++ grpB u) e w' := by
  obtain ⟨i0, Kd⟩ := kindB
  have hul : (grpB u).length ≤ 10 := grpB_len 9 u (Nat.lt_of_lt_of_le hu (by decide))
  have HU : Hid ((grpB u).length ≤ 10) := hul
  have HV := hid hv
  clear hv hul
  go_enter Tryz.func125, Tryz.ntmps125
  go_wp2_with fail
  go_loopw [0, 1] (fun v x wr => ∃ (ys : List Int) (m : Nat), x = .int .u64 (m : Int) ∧ m < 18446744073709551616 ∧ LayB base w (zs ++ ys) v wr ∧ ys ++ grpB m = grpB u) (fun _ x _ => (intOf x).toNat)
  case atStart => exact ⟨[], u, rfl, hu, by simpa using LayB.refl HV.out, rfl⟩
  case round =>
    obtain ⟨ys, m, rfl, hm, hO, hg⟩ := hrel
    have hyl : ys.length ≤ 10 := by
      have h1 := HU.out
      rw [← hg, List.length_append] at h1
      omega
    have hsw := hO.bel.size
    have hzl : (zs ++ ys).length ≤ 90010 := by rw [List.length_append]; omega
    have HG := hid hg
    obtain ⟨L, hL⟩ : ∃ L, L = zs ++ ys := ⟨_, rfl⟩
    rw [← hL] at hO hzl
    have HL := hid hL
    have HO := hid hO
    have hrow : wr.ownsRow base 5 1 u0 L.length (L.map (Value.int .u8)) := hO.own
    clear hO hg hL
    by_cases hs : m < 128
    · have hs' : ¬ (128 : Int) ≤ (m : Int) := by omega
      have e1 : (m : Int) % 256 = (m : Int) := by omega
      go_wp2_with (at_builtin; refine wpList_app rfl (.tmp 15) (.tmp 18) 49 5 i0 _ 1 1 Kd rfl base u0 L.length _ rfl (hrow.alloc _) ⟨wr.heap.size, 0, none⟩ 1 1 [.int .u8 (m : Int)] rfl rfl (cell_one_new _ _ _) (one8 _) (by omega) (by omega) (by simp; omega) ?_)
      intro v3 w3 ho3 hg3 hn3
      have HF := hid (HO.out.one (by omega) ho3 hg3)
      clear ho3 hg3 hn3 hrow
      go_wp2
      go_ret
      refine ⟨_, rfl, ?_⟩
      have e : zs ++ grpB u = L ++ [(m : Int)] := by rw [← HG.out, grpB_small hs, HL.out, List.append_assoc]
      rw [e]
      exact HF.out
    · have hs' : (128 : Int) ≤ (m : Int) := by omega
      have e2 : bits BinOp.or IntKind.u8 ((m : Int) % 256) 128 = ((m % 128 + 128 : Nat) : Int) := by
        have h := bits_or128 m
        rw [show ((m % 256 : Nat) : Int) = (m : Int) % 256 by omega] at h
        exact h
      go_wp2_with (at_builtin; refine wpList_app rfl (.tmp 7) (.tmp 11) 49 5 i0 _ 1 1 Kd rfl base u0 L.length _ rfl (hrow.alloc _) ⟨wr.heap.size, 0, none⟩ 1 1 [.int .u8 ((m : Int) % 128 + 128)] rfl rfl (cell_one_new _ _ _) (one8 _) (by omega) (by omega) (by simp; omega) ?_)
      intro v3 w3 ho3 hg3 hn3
      have HF := hid (HO.out.one (by omega) ho3 hg3)
      clear ho3 hg3 hn3 hrow e2
      go_wp2
      go_roundw
      case rel =>
        have e3 : ((m % 128 + 128 : Nat) : Int) = (m : Int) % 128 + 128 := by omega
        refine ⟨ys ++ [(m : Int) % 128 + 128], m / 128, ?_, by omega, by rw [← List.append_assoc, ← HL.out]; exact HF.out, ?_⟩
        · go_num
        · rw [List.append_assoc, List.singleton_append, ← e3, ← grpB_great hs]; exact HG.out
      case measure => simp [intOf]; omega
end Go.Proofs.YtfonicphdejdlaaGreat
