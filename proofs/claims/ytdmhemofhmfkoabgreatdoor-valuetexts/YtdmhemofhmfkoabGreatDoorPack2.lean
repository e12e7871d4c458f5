import Derived.Test.YtdmhemofhmfkoabGreatDoorPack0
import Derived.Test.YtdmhemofhmfkoabGreatDoorPack1
import Derived.Lib.AppendStr
import Derived.Lib.ItoaLen
import Derived.Lib.DecodeN
import Derived.Deep.RegionLaw
namespace Go.Proofs.YtdmhemofhmfkoabGreatDoor
open Go.RowKit
set_option maxRecDepth 8000

/-- a number in groups of seven bits -/
def grpB (u : Nat) : List Int := if u < 128 then [(u : Int)] else ((u % 128 + 128 : Nat) : Int) :: grpB (u / 128)
termination_by u
decreasing_by omega
theorem grpB_small {u : Nat} (h : u < 128) : grpB u = [(u : Int)] := by rw [grpB, if_pos h]
theorem grpB_great {u : Nat} (h : ¬ u < 128) : grpB u = ((u % 128 + 128 : Nat) : Int) :: grpB (u / 128) := by rw [grpB, if_neg h]
theorem grpB_len : ∀ (k u : Nat), u < 128 ^ (k + 1) → (grpB u).length ≤ k + 1 := by
  intro k
  induction k with
  | zero => intro u h; rw [grpB_small (by simpa using h)]; simp
  | succ k ih =>
    intro u h
    by_cases hu : u < 128
    · rw [grpB_small hu]; simp
    · rw [grpB_great hu]
      have h1 : u / 128 < 128 ^ (k + 1) := by
        rw [Nat.div_lt_iff_lt_mul (by omega)]
        rw [Nat.pow_succ] at h
        exact h
      have := ih _ h1
      simp
      omega
/-- the number that an int is folded to -/
def foldN (i : Int) : Nat := if i < 0 then 2 * (-1 - i).toNat + 1 else 2 * i.toNat
/-- a text's bytes -/
def txtB (s : ByteArray) : List Int := s.data.toList.map fun b => (b.toNat : Int)
/-- a value's bytes -/
def encB : VT → List Int
  | .nil => [0]
  | .mk k i s n _ _ f => k :: (if k = 1 then grpB (foldN i) else if k = 2 then (s.size : Int) :: txtB s else if k = 3 then (n : Int) :: (List.range n).flatMap fun j => encB (f j) else [])
theorem encB_eq (k i : Int) (s : ByteArray) (n : Nat) (p : Option Addr) (c : Nat) (f : Nat → VT) : encB (.mk k i s n p c f) = k :: (if k = 1 then grpB (foldN i) else if k = 2 then (s.size : Int) :: txtB s else if k = 3 then (n : Int) :: (List.range n).flatMap fun j => encB (f j) else []) := rfl
/-- a part's bytes -/
def encP (q : PT) : List Int := q.kind :: (if q.kind = 1 then grpB (foldN q.int) else if q.kind = 2 then (q.text.size : Int) :: txtB q.text else if q.kind = 3 then [(q.n : Int)] else [])
theorem strCells_txt (s : ByteArray) : Go.Lib.strCells s = (txtB s).map (Value.int .u8) := by
  simp [Go.Lib.strCells, txtB, List.map_map, Function.comp_def]
theorem txtB_len (s : ByteArray) : (txtB s).length = s.size := by
  unfold txtB
  rw [List.length_map, Array.length_toList]
  rfl
theorem enc_flat : ∀ t : VT, Val t → (flatP t).flatMap encP = encB t := by
  intro t
  induction t with
  | nil => intro h; exact h.elim
  | mk k i s n p c f ih =>
    intro h
    obtain ⟨⟨h1, _⟩, h2⟩ := h
    rw [flatP_eq, encB_eq, List.flatMap_cons]
    have h3 : ((List.range n).flatMap fun j => flatP (f j)).flatMap encP = (List.range n).flatMap fun j => encB (f j) := by
      rw [List.flatMap_assoc, List.flatMap_def, List.flatMap_def]
      congr 1
      apply List.map_congr_left
      intro j hj
      exact ih j (h2 j (List.mem_range.1 hj))
    rw [h3]
    by_cases hk : k = 3
    · subst hk
      simp [encP]
    · have hn : n = 0 := by
        simp only [fitB, Bool.and_eq_true, Bool.or_eq_true, decide_eq_true_eq] at h1
        rcases h1.2 with h | h
        · exact h
        · exact absurd h hk
      subst hn
      simp [encP, hk]
theorem foldN_lt {i : Int} (h1 : -9223372036854775808 ≤ i) (h2 : i ≤ 9223372036854775807) : foldN i < 18446744073709551616 := by
  unfold foldN; split <;> omega
theorem grp_fold_len {i : Int} (h1 : -9223372036854775808 ≤ i) (h2 : i ≤ 9223372036854775807) : (grpB (foldN i)).length ≤ 10 :=
  grpB_len 9 _ (Nat.lt_of_lt_of_le (foldN_lt h1 h2) (by decide))
theorem encP_len {t : VT} (h : Val t) : ∀ q ∈ flatP t, (encP q).length ≤ 60 := by
  induction t with
  | nil => exact h.elim
  | mk k i s n p c f ih =>
    obtain ⟨⟨h1, h2, h3, h4, h5⟩, h6⟩ := h
    intro q hq
    rw [flatP_eq, List.mem_cons] at hq
    rcases hq with rfl | hq
    · have := grp_fold_len h4 h5
      have := txtB_len s
      simp only [encP]
      split
      · simp; omega
      · split
        · simp; omega
        · split <;> simp
    · obtain ⟨j, hj, hq⟩ := List.mem_flatMap.1 hq
      exact ih j (h6 j (List.mem_range.1 hj)) q hq
theorem flatMap_le {α β : Type} (g : α → List β) (m : Nat) : ∀ l : List α, (∀ q ∈ l, (g q).length ≤ m) → (l.flatMap g).length ≤ m * l.length := by
  intro l
  induction l with
  | nil => intro _; simp
  | cons a r ih =>
    intro h
    have h1 := h a (List.mem_cons_self ..)
    have h2 := ih fun q hq => h q (List.mem_cons_of_mem _ hq)
    rw [List.flatMap_cons, List.length_append, List.length_cons, Nat.mul_succ]
    omega
theorem enc_len {t : VT} (h : Val t) : (encB t).length ≤ 60 * (flatP t).length := by
  rw [← enc_flat t h]; exact flatMap_le _ _ _ (encP_len h)

theorem or128 (u : Nat) : (u % 256) ||| 128 = u % 128 + 128 := by
  have h : ∀ v : Nat, v < 256 → v ||| 128 = v % 128 + 128 := by decide
  rw [h _ (Nat.mod_lt _ (by omega))]
  omega
theorem bits_or128 (u : Nat) : bits BinOp.or IntKind.u8 ((u % 256 : Nat) : Int) 128 = ((u % 128 + 128 : Nat) : Int) := by
  rw [← or128]
  have h : ∀ v : Nat, v < 256 → bits BinOp.or IntKind.u8 (v : Int) 128 = ((v ||| 128 : Nat) : Int) := by decide
  exact h _ (Nat.mod_lt _ (by omega))
end Go.Proofs.YtdmhemofhmfkoabGreatDoor

namespace Go.Proofs.YtdmhemofhmfkoabGreatDoor
open Go.RowKit
set_option maxRecDepth 8000

theorem compl64 (X : Nat) (h : X < 2 ^ 64) : (2 ^ 64 - 1) ^^^ X = 2 ^ 64 - (X + 1) := by
  apply Nat.eq_of_testBit_eq
  intro i
  rw [Nat.testBit_xor, Nat.testBit_two_pow_sub_one, Nat.testBit_two_pow_sub_succ h]
  by_cases hi : i < 64
  · simp [hi]
  · have hx : X.testBit i = false := Nat.testBit_lt_two_pow (Nat.lt_of_lt_of_le h (Nat.pow_le_pow_right (by omega) (by omega)))
    simp [hi, hx]
theorem or_one (Y : Nat) : (2 * Y) ||| 1 = 2 * Y + 1 := by
  have := Nat.shiftLeft_add_eq_or_of_lt (b := 1) (i := 1) (by omega) Y
  rw [Nat.shiftLeft_eq] at this
  rw [Nat.mul_comm, show Y * 2 = Y * 2 ^ 1 from rfl, ← this]
theorem fold_neg (i : Int) (h1 : -9223372036854775808 ≤ i) (h : i < 0) :
    bits BinOp.or IntKind.u64 (IntKind.u64.wrap (bits BinOp.xor IntKind.u64 IntKind.u64.max (IntKind.u64.wrap i) * 2)) 1 = ((foldN i : Nat) : Int) := by
  obtain ⟨X, hX⟩ := Int.eq_ofNat_of_zero_le (show 0 ≤ i + 18446744073709551616 by omega)
  have e : IntKind.u64.wrap i = (X : Int) := by rw [wrap_u64]; omega
  have hm : IntKind.u64.max = ((18446744073709551615 : Nat) : Int) := by decide
  have h2 := bits_xor_u64_nat 18446744073709551615 X (by omega) (by omega)
  have h3 : 18446744073709551615 ^^^ X = 18446744073709551616 - (X + 1) := compl64 X (by omega)
  rw [h3] at h2
  rw [e, hm, h2]
  obtain ⟨Y, hY⟩ : ∃ Y : Nat, Y = 18446744073709551616 - (X + 1) := ⟨_, rfl⟩
  rw [← hY]
  have e2 : IntKind.u64.wrap ((Y : Int) * 2) = ((2 * Y : Nat) : Int) := by rw [wrap_u64]; omega
  have h4 := bits_or_u64_nat (2 * Y) 1 (by omega) (by omega)
  rw [or_one] at h4
  rw [e2]
  have h5 : foldN i = 2 * Y + 1 := by unfold foldN; rw [if_pos h]; omega
  rw [h5]
  exact h4

set_option maxHeartbeats 1000000 in
theorem fold_any (i : Int) (h1 : -9223372036854775808 ≤ i) (h2 : i ≤ 9223372036854775807) (w : World) :
    Calls Tryz.prog 71 #[.int .i64 i] w fun e w' => e = .returned (.int .u64 (foldN i)) ∧ w' = w := by
  by_cases h : i < 0
  · have e := fold_neg i h1 h
    go_enter Tryz.func71, Tryz.ntmps71
    go_wp2
    go_ret
    exact ⟨by first | rfl | (rw [← e]; rfl), rfl⟩
  · have e : ((foldN i : Nat) : Int) = i * 2 := by unfold foldN; rw [if_neg h]; omega
    go_enter Tryz.func71, Tryz.ntmps71
    go_wp2
    go_ret
    exact ⟨by first | rfl | (rw [e]; rfl), rfl⟩

theorem one8 (x : Int) : ∀ u ∈ [Value.int .u8 x], u.oneCell' = true := by
  intro u hu
  simp only [List.mem_singleton] at hu
  subst hu
  rfl
/-- one more byte -/
theorem OwnBy.one {base : Nat} {w w' : World} {v v' : Value} {zs : List Int} {x : Int} (h : OwnBy base w v zs) (ho : w'.ownsRow base 5 1 v' (zs.length + 1) (zs.map (Value.int .u8) ++ [.int .u8 x])) : OwnBy base w' v' (zs ++ [x]) := h.app (ys := [x]) ho
theorem below_row {base : Nat} {w w1 w2 : World} {v : Value} {zs : List Int} (hb : Below base w w1) (hB : base ≤ w1.heap.size) (hv : OwnBy base w1 v zs) (o : Obj) (hg : (w1.alloc o).grownBy w2 v.ownBlock) : Below base w w2 :=
  (hb.trans (((Below.refl w1.heap.size w1).alloc (Nat.le_refl _) o).mono hB)).grown hg (by simp; omega) (fun k hk => (World.ownsRow.lt hv k hk).1)

/-- what is no row of bytes stays -/
def KeepN (w w' : World) : Prop := ∀ (B : Nat) (o : Obj), (∀ cs z, o ≠ Obj.cells cs 5 z) → w.heap[B]? = some o → w'.heap[B]? = some o
theorem KeepN.refl (w : World) : KeepN w w := fun _ _ _ h => h
theorem KeepN.trans {a b c : World} (h : KeepN a b) (k : KeepN b c) : KeepN a c := fun B o he hb => k B o he (h B o he hb)
theorem KeepN.below {w w' : World} (h : Below w.heap.size w w') : KeepN w w' := fun B o _ hb => by
  have hl : B < w.heap.size := by
    rcases Nat.lt_or_ge B w.heap.size with h1 | h1
    · exact h1
    · rw [Array.getElem?_eq_none h1] at hb; cases hb
  rw [h.block B hl]; exact hb
theorem KeepN.box {w w' : World} (h : KeepN w w') {B : Nat} {cs : Array Value} {e : TypeId} (he : e ≠ 5) (hb : Box w B cs e) : Box w' B cs e := h B _ (fun cs2 z e2 => by simp only [Obj.cells.injEq] at e2; exact he e2.2.1) hb
theorem KeepN.grown {base : Nat} {w w' : World} {v : Value} {zs : List Int} (hv : OwnBy base w v zs) (hg : w.grownBy w' v.ownBlock) : KeepN w w' := fun B o he hb => by
  have hl : B < w.heap.size := by
    rcases Nat.lt_or_ge B w.heap.size with h1 | h1
    · exact h1
    · rw [Array.getElem?_eq_none h1] at hb; cases hb
  refine (hg.block B hl fun hB => ?_).trans hb
  obtain ⟨_, ⟨hv2, _⟩ | ⟨g, cap, cur, hv2, _, hh, _⟩⟩ := id hv
  · rw [hv2] at hB; cases hB
  · rw [hv2] at hB
    have e1 : B = g := by simpa [Value.ownBlock] using hB
    rw [e1, hh] at hb
    simp only [Option.some.injEq] at hb
    exact he _ _ hb.symm
/-- bytes laid behind a row -/
structure LayB (base : Nat) (w : World) (zs : List Int) (v' : Value) (w' : World) : Prop where
  own : OwnBy base w' v' zs
  bel : Below base w w'
  keep : KeepN w w'
theorem LayB.refl {base : Nat} {w : World} {v : Value} {zs : List Int} (h : OwnBy base w v zs) : LayB base w zs v w := ⟨h, Below.refl _ _, KeepN.refl _⟩
theorem LayB.lift {base : Nat} {a w w' : World} {v' : Value} {zs : List Int} (h : LayB base w zs v' w') (hb : Below base a w) (hk : KeepN a w) : LayB base a zs v' w' := ⟨h.own, hb.trans h.bel, hk.trans h.keep⟩
/-- one byte more, by an append of a new list -/
theorem LayB.one {base : Nat} {a w w' : World} {v v' : Value} {zs : List Int} {x : Int} (h : LayB base a zs v w) (hB : base ≤ w.heap.size) (ho : w'.ownsRow base 5 1 v' (zs.length + 1) (zs.map (Value.int .u8) ++ [.int .u8 x])) (hg : (w.alloc (.cells #[.int .u8 x] 5)).grownBy w' v.ownBlock) : LayB base a (zs ++ [x]) v' w' :=
  ⟨h.own.one ho, below_row h.bel hB h.own _ hg, (h.keep.trans (KeepN.below ((Below.refl _ _).alloc (Nat.le_refl _) _))).trans (KeepN.grown (h.own.below ((Below.refl _ _).alloc (Nat.le_refl _) _)) hg)⟩
/-- a text's bytes more -/
theorem LayB.text {base : Nat} {a w w' : World} {v v' : Value} {zs : List Int} {s : ByteArray} (h : LayB base a zs v w) (hB : base ≤ w.heap.size) (ho : w'.ownsRow base 5 1 v' (zs.length + s.size) (zs.map (Value.int .u8) ++ Go.Lib.strCells s)) (hg : w.grownBy w' v.ownBlock) : LayB base a (zs ++ txtB s) v' w' :=
  ⟨h.own.app (by rw [← strCells_txt, txtB_len]; exact ho), h.bel.grown hg hB (fun k hk => (World.ownsRow.lt h.own k hk).1), h.keep.trans (KeepN.grown h.own hg)⟩
def EPost (base : Nat) (w : World) (zs : List Int) (e : Ending) (w' : World) : Prop := ∃ v', e = .returned v' ∧ LayB base w zs v' w'

set_option maxHeartbeats 1000000 in
theorem appendGroups_any (u : Nat) (hu : u < 18446744073709551616) (base : Nat) (w : World) (v : Value) (zs : List Int) (hv : OwnBy base w v zs) (hb : base ≤ w.heap.size) (hz : zs.length ≤ 90000) :
    Calls Tryz.prog 70 #[v, .int .u64 u] w fun e w' => EPost base w (zs ++ grpB u) e w' := by
  obtain ⟨i0, Kd⟩ := kindB
  have hul : (grpB u).length ≤ 10 := grpB_len 9 u (Nat.lt_of_lt_of_le hu (by decide))
  have HU : Hid ((grpB u).length ≤ 10) := hul
  have HV := hid hv
  clear hv hul
  go_enter Tryz.func70, Tryz.ntmps70
  go_wp2_with fail
  go_loopw [0, 1] (fun v x wr => ∃ (ys : List Int) (m : Nat), x = .int .u64 (m : Int) ∧ m < 18446744073709551616 ∧ LayB base w (zs ++ ys) v wr ∧ ys ++ grpB m = grpB u) (fun _ x _ => (intOf x).toNat)
  case atStart => exact ⟨[], u, rfl, hu, by simpa using LayB.refl HV.out, rfl⟩
  case round =>
    obtain ⟨ys, m, rfl, hm, hO, hg⟩ := hrel
    have hyl : ys.length ≤ 10 := by
      have h1 := HU.out
      rw [← hg, List.length_append] at h1
      omega
    have hsw := hO.bel.size
    have hzl : (zs ++ ys).length ≤ 90010 := by rw [List.length_append]; omega
    have HG := hid hg
    obtain ⟨L, hL⟩ : ∃ L, L = zs ++ ys := ⟨_, rfl⟩
    rw [← hL] at hO hzl
    have HL := hid hL
    have HO := hid hO
    have hrow : wr.ownsRow base 5 1 u0 L.length (L.map (Value.int .u8)) := hO.own
    clear hO hg hL
    by_cases hs : m < 128
    · have hs' : ¬ (128 : Int) ≤ (m : Int) := by omega
      have e1 : (m : Int) % 256 = (m : Int) := by omega
      go_wp2_with (at_builtin; refine wpList_app rfl (.tmp 15) (.tmp 18) 25 5 i0 _ 1 1 Kd rfl base u0 L.length _ rfl (hrow.alloc _) ⟨wr.heap.size, 0, none⟩ 1 1 [.int .u8 (m : Int)] rfl rfl (cell_one_new _ _ _) (one8 _) (by omega) (by omega) (by simp; omega) ?_)
      intro v3 w3 ho3 hg3 hn3
      have HF := hid (HO.out.one (by omega) ho3 hg3)
      clear ho3 hg3 hn3 hrow
      go_wp2
      go_ret
      refine ⟨_, rfl, ?_⟩
      have e : zs ++ grpB u = L ++ [(m : Int)] := by rw [← HG.out, grpB_small hs, HL.out, List.append_assoc]
      rw [e]
      exact HF.out
    · have hs' : (128 : Int) ≤ (m : Int) := by omega
      have e2 : bits BinOp.or IntKind.u8 ((m : Int) % 256) 128 = ((m % 128 + 128 : Nat) : Int) := by
        have h := bits_or128 m
        rw [show ((m % 256 : Nat) : Int) = (m : Int) % 256 by omega] at h
        exact h
      go_wp2_with (at_builtin; refine wpList_app rfl (.tmp 7) (.tmp 11) 25 5 i0 _ 1 1 Kd rfl base u0 L.length _ rfl (hrow.alloc _) ⟨wr.heap.size, 0, none⟩ 1 1 [.int .u8 ((m : Int) % 128 + 128)] rfl rfl (cell_one_new _ _ _) (one8 _) (by omega) (by omega) (by simp; omega) ?_)
      intro v3 w3 ho3 hg3 hn3
      have HF := hid (HO.out.one (by omega) ho3 hg3)
      clear ho3 hg3 hn3 hrow e2
      go_wp2
      go_roundw
      case rel =>
        have e3 : ((m % 128 + 128 : Nat) : Int) = (m : Int) % 128 + 128 := by omega
        refine ⟨ys ++ [(m : Int) % 128 + 128], m / 128, ?_, by omega, by rw [← List.append_assoc, ← HL.out]; exact HF.out, ?_⟩
        · go_num
        · rw [List.append_assoc, List.singleton_append, ← e3, ← grpB_great hs]; exact HG.out
      case measure => simp [intOf]; omega
end Go.Proofs.YtdmhemofhmfkoabGreatDoor

namespace Go.Proofs.YtdmhemofhmfkoabGreatDoor
open Go.RowKit
set_option maxRecDepth 8000

/-- a digit of base sixteen -/
def hexd (d : Nat) : Int := if d < 10 then 48 + (d : Int) else 87 + (d : Int)
/-- bytes in base sixteen -/
def hexB (l : List Int) : List Int := l.flatMap fun b => [92, 120, hexd (b.toNat / 16), hexd (b.toNat % 16)]
theorem hexB_append (a b : List Int) : hexB (a ++ b) = hexB a ++ hexB b := by simp [hexB]
theorem hexB_len (l : List Int) : (hexB l).length = 4 * l.length := by
  induction l with
  | nil => rfl
  | cons a l ih => simp only [hexB, List.flatMap_cons, List.length_append, List.length_cons, List.length_nil] at ih ⊢; omega
/-- what is printed of the rune at place a -/
def piece (s : ByteArray) (a : Nat) : List Int :=
  if (Utf8.decode s a).1 = 34 ∨ (Utf8.decode s a).1 = 92 then [92, ((Utf8.decode s a).1 : Int)]
  else if (Utf8.decode s a).1 = 10 then [92, 110] else if (Utf8.decode s a).1 = 9 then [92, 116]
  else if (32 ≤ (Utf8.decode s a).1 ∧ (Utf8.decode s a).1 ≤ 126) ∨ (160 ≤ (Utf8.decode s a).1 ∧ 1 < (Utf8.decode s a).2) then txtB (Utf8.encode ((Utf8.decode s a).1 : Int))
  else hexB (((txtB s).drop a).take (Utf8.decode s a).2)
/-- what is printed from place a on, of at most so many runes -/
def quoF (s : ByteArray) : Nat → Nat → List Int
  | 0, _ => []
  | k + 1, a => if a < s.size then piece s a ++ quoF s k (a + (Utf8.decode s a).2) else []
def quoB (s : ByteArray) : List Int := [34] ++ quoF s s.size 0 ++ [34]
def itoaB (i : Int) : List Int := (Go.Lib.itoa i).map fun b => (b.toNat : Int)
/-- what is printed of a value -/
def prB : VT → List Int
  | .nil => [110, 111, 110, 101]
  | .mk k i s n _ _ f => if k = 1 then itoaB i else if k = 2 then quoB s else if k = 3 then [91] ++ ((List.range n).flatMap fun j => (if 0 < j then [44, 32] else []) ++ prB (f j)) ++ [93] else [110, 111, 110, 101]
theorem prB_eq (k i : Int) (s : ByteArray) (n : Nat) (p : Option Addr) (c : Nat) (f : Nat → VT) : prB (.mk k i s n p c f) = if k = 1 then itoaB i else if k = 2 then quoB s else if k = 3 then [91] ++ ((List.range n).flatMap fun j => (if 0 < j then [44, 32] else []) ++ prB (f j)) ++ [93] else [110, 111, 110, 101] := rfl
theorem enc_size (r : Int) : (Utf8.encode r).size ≤ 4 := by
  unfold Utf8.encode
  simp only
  repeat' split
  all_goals first | (show 1 ≤ 4; omega) | (show 2 ≤ 4; omega) | (show 3 ≤ 4; omega) | (show 4 ≤ 4; omega)
theorem dec_width (s : ByteArray) (a : Nat) : 1 ≤ (Utf8.decode s a).2 ∧ (Utf8.decode s a).2 ≤ 4 ∧ (a < s.size → a + (Utf8.decode s a).2 ≤ s.size) := by
  rw [Go.Lib.decode_at]
  unfold Go.Lib.decodeN
  repeat' split
  all_goals (refine ⟨?_, ?_, ?_⟩ <;> simp only <;> omega)
theorem piece_len (s : ByteArray) (a : Nat) : (piece s a).length ≤ 16 := by
  have h := dec_width s a
  have h2 := enc_size ((Utf8.decode s a).1 : Int)
  unfold piece
  split
  · simp
  split
  · simp
  split
  · simp
  split
  · rw [txtB_len]; omega
  · rw [hexB_len, List.length_take]; omega
theorem quoF_len (s : ByteArray) : ∀ k a, (quoF s k a).length ≤ 16 * k := by
  intro k
  induction k with
  | zero => intro a; simp [quoF]
  | succ k ih =>
    intro a
    rw [quoF]
    split
    · have := piece_len s a
      have := ih (a + (Utf8.decode s a).2)
      rw [List.length_append]; omega
    · simp
theorem quoF_more (s : ByteArray) {k a : Nat} (h : a < s.size) : quoF s (k + 1) a = piece s a ++ quoF s k (a + (Utf8.decode s a).2) := by rw [quoF, if_pos h]
theorem quoF_end (s : ByteArray) {k a : Nat} (h : ¬ a < s.size) : quoF s k a = [] := by
  cases k with
  | zero => rfl
  | succ k => rw [quoF, if_neg h]
end Go.Proofs.YtdmhemofhmfkoabGreatDoor

namespace Go.Proofs.YtdmhemofhmfkoabGreatDoor
open Go.RowKit
set_option maxRecDepth 8000
/-- some bytes more, by an append of a new list -/
theorem LayB.many {base : Nat} {a w w' : World} {v v' : Value} {zs ys : List Int} {o : Obj} (h : LayB base a zs v w) (hB : base ≤ w.heap.size) (ho : w'.ownsRow base 5 1 v' (zs.length + ys.length) (zs.map (Value.int .u8) ++ ys.map (Value.int .u8))) (hg : (w.alloc o).grownBy w' v.ownBlock) : LayB base a (zs ++ ys) v' w' :=
  ⟨h.own.app ho, below_row h.bel hB h.own _ hg, (h.keep.trans (KeepN.below ((Below.refl _ _).alloc (Nat.le_refl _) _))).trans (KeepN.grown (h.own.below ((Below.refl _ _).alloc (Nat.le_refl _) _)) hg)⟩
theorem txtB_get {s : ByteArray} {j : Nat} (h : j < s.size) : (txtB s)[j]? = some ((s[j]'h).toNat : Int) := by
  unfold txtB
  rw [List.getElem?_map]
  have : s.data.toList[j]? = some (s[j]'h) := by
    rw [Array.getElem?_toList]
    exact Array.getElem?_eq_getElem h
  rw [this]
  rfl
theorem hexB_next {s : ByteArray} {j : Nat} (h : j < s.size) : hexB ((txtB s).take (j + 1)) = hexB ((txtB s).take j) ++ [92, 120, hexd ((s[j]'h).toNat / 16), hexd ((s[j]'h).toNat % 16)] := by
  rw [List.take_add_one, txtB_get h, hexB_append]
  simp [hexB]
theorem dig {z : Int} (h0 : 0 ≤ z) (h1 : z < 16) : ∀ h, (((⟨#[48, 49, 50, 51, 52, 53, 54, 55, 56, 57, 97, 98, 99, 100, 101, 102]⟩ : ByteArray)[z.toNat]'h).toNat : Int) = hexd z.toNat := by
  obtain ⟨d, rfl⟩ := Int.eq_ofNat_of_zero_le h0
  have hd : d < 16 := by omega
  intro h
  have key : ∀ d : Fin 16, ∀ h, (((⟨#[48, 49, 50, 51, 52, 53, 54, 55, 56, 57, 97, 98, 99, 100, 101, 102]⟩ : ByteArray)[d.val]'h).toNat : Int) = hexd d.val := by decide
  exact key ⟨d, hd⟩ h
theorem and15 (b : UInt8) : bits BinOp.and IntKind.u8 (b.toNat : Int) 15 = (b.toNat : Int) % 16 := by
  have key : ∀ x : Nat, x < 256 → bits BinOp.and IntKind.u8 (x : Int) 15 = (x : Int) % 16 := by decide
  exact key _ b.toNat_lt
set_option maxHeartbeats 1000000 in
theorem appendHex_any (s : ByteArray) (hs : s.size ≤ 4) (base : Nat) (w : World) (v : Value) (zs : List Int) (hv : OwnBy base w v zs) (hb : base ≤ w.heap.size) (hz : zs.length ≤ 90000) :
    Calls Tryz.prog 97 #[v, .string s] w fun e w' => EPost base w (zs ++ hexB (txtB s)) e w' := by
  obtain ⟨i0, Kd⟩ := kindB
  have HV := hid hv
  clear hv
  go_enter Tryz.func97, Tryz.ntmps97
  go_wp2_with fail
  go_loopw [0, 8] (fun v x wr => ∃ (j : Nat), j ≤ s.size ∧ x = .int .i64 (j : Int) ∧ LayB base w (zs ++ hexB ((txtB s).take j)) v wr) (fun _ x _ => s.size - (intOf x).toNat)
  case atStart => exact ⟨0, Nat.zero_le _, rfl, by simpa [hexB] using LayB.refl HV.out⟩
  case round =>
    obtain ⟨j, hj, rfl, hO⟩ := hrel
    have hsw := hO.bel.size
    have hzl : (zs ++ hexB ((txtB s).take j)).length ≤ 90016 := by rw [List.length_append, hexB_len, List.length_take]; omega
    by_cases hlt : j < s.size
    · have hlt' : (j : Int) < (s.size : Int) := by omega
      have HN := hid (hexB_next hlt)
      obtain ⟨L, hL⟩ : ∃ L, L = zs ++ hexB ((txtB s).take j) := ⟨_, rfl⟩
      rw [← hL] at hO hzl
      have HL := hid hL
      have HO := hid hO
      have hrow : wr.ownsRow base 5 1 u0 L.length (L.map (Value.int .u8)) := hO.own
      clear hO hL
      have hx := (s[j]'hlt).toNat_lt
      have hA := and15 (s[j]'hlt)
      have hd1 : (0 : Int) ≤ ((s[j]'hlt).toNat : Int) / 16 := by omega
      have hd2 : ((s[j]'hlt).toNat : Int) / 16 < 16 := by omega
      have hd3 : (0 : Int) ≤ ((s[j]'hlt).toNat : Int) % 16 := by omega
      have hd4 : ((s[j]'hlt).toNat : Int) % 16 < 16 := by omega
      have hD1 := dig hd1 hd2
      have hD2 := dig hd3 hd4
      go_wp2_with fail
      have hrow2 : ∀ o, ((wr.alloc o).drew).ownsRow base 5 1 u0 L.length (L.map (Value.int .u8)) := fun o => ownsRow_keep hrow (fun g _ hl => (((Below.refl wr.heap.size wr).alloc (Nat.le_refl _) o).drew).block g hl)
      have hnw : ∀ a b c d : Value, ∀ j u, [a, b, c, d][j]? = some u → ((wr.alloc (.cells #[a, b, c, d] 5)).drew).cell? ((⟨wr.heap.size, 0, none⟩ : Addr).add j) = some u := fun a b c d => news4 wr a b c d 5
      go_region_law (refine step_app rfl (.tmp 11) (.tmp 22) 25 5 i0 _ 1 1 Kd rfl base u0 L.length (L.map (Value.int .u8)) rfl (hrow2 _) ⟨wr.heap.size, 0, none⟩ 4 4 [.int .u8 92, .int .u8 120, .int .u8 (hexd (((s[j]'hlt).toNat : Int) / 16).toNat), .int .u8 (hexd (((s[j]'hlt).toNat : Int) % 16).toNat)] rfl rfl (hnw _ _ _ _) (fun u hu => by simp only [List.mem_cons, List.not_mem_nil, or_false] at hu; rcases hu with rfl | rfl | rfl | rfl <;> rfl) (by omega) (by omega) (by simp; omega) ?_; intro v3 w3 ho3 hg3 hn3)
      all_goals
        have HF := hid (HO.out.many (ys := [92, 120, hexd (((s[j]'hlt).toNat : Int) / 16).toNat, hexd (((s[j]'hlt).toNat : Int) % 16).toNat]) (by omega) ho3 (o := .cells #[.int .u8 92, .int .u8 120, .int .u8 (hexd (((s[j]'hlt).toNat : Int) / 16).toNat), .int .u8 (hexd (((s[j]'hlt).toNat : Int) % 16).toNat)] 5) ⟨hg3.os, hg3.tape, hg3.output, hg3.size, hg3.block⟩)
        clear ho3 hg3 hn3 hrow hrow2 hnw
        go_wp2
        go_roundw
        case rel =>
          refine ⟨j + 1, by omega, by go_num, ?_⟩
          have e1 : (((s[j]'hlt).toNat : Int) / 16).toNat = (s[j]'hlt).toNat / 16 := by omega
          have e2 : (((s[j]'hlt).toNat : Int) % 16).toNat = (s[j]'hlt).toNat % 16 := by omega
          have h := HF.out
          rw [e1, e2, HL.out, List.append_assoc, ← HN.out] at h
          exact h
        case measure => simp [intOf]; omega
    · have hlt' : ¬ (j : Int) < (s.size : Int) := by omega
      have hje : j = s.size := by omega
      have hF : zs ++ hexB ((txtB s).take j) = zs ++ hexB (txtB s) := by rw [hje, ← txtB_len s, List.take_length]
      rw [hF] at hO
      have HF := hid hO
      clear hO hF
      go_wp2
      go_ret
      exact ⟨_, rfl, HF.out⟩
end Go.Proofs.YtdmhemofhmfkoabGreatDoor
