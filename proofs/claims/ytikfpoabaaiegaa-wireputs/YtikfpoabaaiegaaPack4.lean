import Derived.Test.YtikfpoabaaiegaaPack3
import Derived.Test.YtikfpoabaaiegaaPack0
namespace Go.Proofs.Ytikfpoabaaiegaa
open Go.RowKit
set_option maxRecDepth 8000

theorem compl64 (X : Nat) (h : X < 2 ^ 64) : (2 ^ 64 - 1) ^^^ X = 2 ^ 64 - (X + 1) := by
  apply Nat.eq_of_testBit_eq
  intro i
  rw [Nat.testBit_xor, Nat.testBit_two_pow_sub_one, Nat.testBit_two_pow_sub_succ h]
  by_cases hi : i < 64
  · simp [hi]
  · have hx : X.testBit i = false := Nat.testBit_lt_two_pow (Nat.lt_of_lt_of_le h (Nat.pow_le_pow_right (by omega) (by omega)))
    simp [hi, hx]
theorem or_one (Y : Nat) : (2 * Y) ||| 1 = 2 * Y + 1 := by
  have := Nat.shiftLeft_add_eq_or_of_lt (b := 1) (i := 1) (by omega) Y
  rw [Nat.shiftLeft_eq] at this
  rw [Nat.mul_comm, show Y * 2 = Y * 2 ^ 1 from rfl, ← this]
theorem fold_neg (i : Int) (h1 : -9223372036854775808 ≤ i) (h : i < 0) :
    bits BinOp.or IntKind.u64 (IntKind.u64.wrap (bits BinOp.xor IntKind.u64 IntKind.u64.max (IntKind.u64.wrap i) * 2)) 1 = ((foldN i : Nat) : Int) := by
  obtain ⟨X, hX⟩ := Int.eq_ofNat_of_zero_le (show 0 ≤ i + 18446744073709551616 by omega)
  have e : IntKind.u64.wrap i = (X : Int) := by rw [wrap_u64]; omega
  have hm : IntKind.u64.max = ((18446744073709551615 : Nat) : Int) := by decide
  have h2 := bits_xor_u64_nat 18446744073709551615 X (by omega) (by omega)
  have h3 : 18446744073709551615 ^^^ X = 18446744073709551616 - (X + 1) := compl64 X (by omega)
  rw [h3] at h2
  rw [e, hm, h2]
  obtain ⟨Y, hY⟩ : ∃ Y : Nat, Y = 18446744073709551616 - (X + 1) := ⟨_, rfl⟩
  rw [← hY]
  have e2 : IntKind.u64.wrap ((Y : Int) * 2) = ((2 * Y : Nat) : Int) := by rw [wrap_u64]; omega
  have h4 := bits_or_u64_nat (2 * Y) 1 (by omega) (by omega)
  rw [or_one] at h4
  rw [e2]
  have h5 : foldN i = 2 * Y + 1 := by unfold foldN; rw [if_pos h]; omega
  rw [h5]
  exact h4

set_option maxHeartbeats 1000000 in
theorem fold_any (i : Int) (h1 : -9223372036854775808 ≤ i) (h2 : i ≤ 9223372036854775807) (w : World) :
    Calls Try.prog 162 #[.int .i64 i] w fun e w' => e = .returned (.int .u64 (foldN i)) ∧ w' = w := by
  by_cases h : i < 0
  · have e := fold_neg i h1 h
    go_enter Try.func162, Try.ntmps162
    go_wp2
    go_ret
    exact ⟨by first | rfl | (rw [← e]; rfl), rfl⟩
  · have e : ((foldN i : Nat) : Int) = i * 2 := by unfold foldN; rw [if_neg h]; omega
    go_enter Try.func162, Try.ntmps162
    go_wp2
    go_ret
    exact ⟨by first | rfl | (rw [e]; rfl), rfl⟩

theorem one8 (x : Int) : ∀ u ∈ [Value.int .u8 x], u.oneCell' = true := by
  intro u hu
  simp only [List.mem_singleton] at hu
  subst hu
  rfl
/-- one more byte -/
theorem OwnBy.one {base : Nat} {w w' : World} {v v' : Value} {zs : List Int} {x : Int} (h : OwnBy base w v zs) (ho : w'.ownsRow base 5 1 v' (zs.length + 1) (zs.map (Value.int .u8) ++ [.int .u8 x])) : OwnBy base w' v' (zs ++ [x]) := h.app (ys := [x]) ho
theorem below_row {base : Nat} {w w1 w2 : World} {v : Value} {zs : List Int} (hb : Below base w w1) (hB : base ≤ w1.heap.size) (hv : OwnBy base w1 v zs) (o : Obj) (hg : (w1.alloc o).grownBy w2 v.ownBlock) : Below base w w2 :=
  (hb.trans (((Below.refl w1.heap.size w1).alloc (Nat.le_refl _) o).mono hB)).grown hg (by simp; omega) (fun k hk => (World.ownsRow.lt hv k hk).1)

/-- what is no row of bytes stays -/
def KeepN (w w' : World) : Prop := ∀ (B : Nat) (o : Obj), (∀ cs z, o ≠ Obj.cells cs 5 z) → w.heap[B]? = some o → w'.heap[B]? = some o
theorem KeepN.refl (w : World) : KeepN w w := fun _ _ _ h => h
theorem KeepN.trans {a b c : World} (h : KeepN a b) (k : KeepN b c) : KeepN a c := fun B o he hb => k B o he (h B o he hb)
theorem KeepN.below {w w' : World} (h : Below w.heap.size w w') : KeepN w w' := fun B o _ hb => by
  have hl : B < w.heap.size := by
    rcases Nat.lt_or_ge B w.heap.size with h1 | h1
    · exact h1
    · rw [Array.getElem?_eq_none h1] at hb; cases hb
  rw [h.block B hl]; exact hb
theorem KeepN.box {w w' : World} (h : KeepN w w') {B : Nat} {cs : Array Value} {e : TypeId} (he : e ≠ 5) (hb : Box w B cs e) : Box w' B cs e := h B _ (fun cs2 z e2 => by simp only [Obj.cells.injEq] at e2; exact he e2.2.1) hb
theorem KeepN.grown {base : Nat} {w w' : World} {v : Value} {zs : List Int} (hv : OwnBy base w v zs) (hg : w.grownBy w' v.ownBlock) : KeepN w w' := fun B o he hb => by
  have hl : B < w.heap.size := by
    rcases Nat.lt_or_ge B w.heap.size with h1 | h1
    · exact h1
    · rw [Array.getElem?_eq_none h1] at hb; cases hb
  refine (hg.block B hl fun hB => ?_).trans hb
  obtain ⟨_, ⟨hv2, _⟩ | ⟨g, cap, cur, hv2, _, hh, _⟩⟩ := id hv
  · rw [hv2] at hB; cases hB
  · rw [hv2] at hB
    have e1 : B = g := by simpa [Value.ownBlock] using hB
    rw [e1, hh] at hb
    simp only [Option.some.injEq] at hb
    exact he _ _ hb.symm
/-- bytes laid behind a row -/
structure LayB (base : Nat) (w : World) (zs : List Int) (v' : Value) (w' : World) : Prop where
  own : OwnBy base w' v' zs
  bel : Below base w w'
  keep : KeepN w w'
theorem LayB.refl {base : Nat} {w : World} {v : Value} {zs : List Int} (h : OwnBy base w v zs) : LayB base w zs v w := ⟨h, Below.refl _ _, KeepN.refl _⟩
theorem LayB.lift {base : Nat} {a w w' : World} {v' : Value} {zs : List Int} (h : LayB base w zs v' w') (hb : Below base a w) (hk : KeepN a w) : LayB base a zs v' w' := ⟨h.own, hb.trans h.bel, hk.trans h.keep⟩
/-- one byte more, by an append of a new list -/
theorem LayB.one {base : Nat} {a w w' : World} {v v' : Value} {zs : List Int} {x : Int} (h : LayB base a zs v w) (hB : base ≤ w.heap.size) (ho : w'.ownsRow base 5 1 v' (zs.length + 1) (zs.map (Value.int .u8) ++ [.int .u8 x])) (hg : (w.alloc (.cells #[.int .u8 x] 5)).grownBy w' v.ownBlock) : LayB base a (zs ++ [x]) v' w' :=
  ⟨h.own.one ho, below_row h.bel hB h.own _ hg, (h.keep.trans (KeepN.below ((Below.refl _ _).alloc (Nat.le_refl _) _))).trans (KeepN.grown (h.own.below ((Below.refl _ _).alloc (Nat.le_refl _) _)) hg)⟩
/-- a text's bytes more -/
theorem LayB.text {base : Nat} {a w w' : World} {v v' : Value} {zs : List Int} {s : ByteArray} (h : LayB base a zs v w) (hB : base ≤ w.heap.size) (ho : w'.ownsRow base 5 1 v' (zs.length + s.size) (zs.map (Value.int .u8) ++ Go.Lib.strCells s)) (hg : w.grownBy w' v.ownBlock) : LayB base a (zs ++ txtB s) v' w' :=
  ⟨h.own.app (by rw [← strCells_txt, txtB_len]; exact ho), h.bel.grown hg hB (fun k hk => (World.ownsRow.lt h.own k hk).1), h.keep.trans (KeepN.grown h.own hg)⟩
def EPost (base : Nat) (w : World) (zs : List Int) (e : Ending) (w' : World) : Prop := ∃ v', e = .returned v' ∧ LayB base w zs v' w'

set_option maxHeartbeats 1000000 in
theorem appendGroups_any (u : Nat) (hu : u < 18446744073709551616) (base : Nat) (w : World) (v : Value) (zs : List Int) (hv : OwnBy base w v zs) (hb : base ≤ w.heap.size) (hz : zs.length ≤ 90000) :
    Calls Try.prog 161 #[v, .int .u64 u] w fun e w' => EPost base w (zs ++ grpB u) e w' := by
  obtain ⟨i0, Kd⟩ := kindB
  have hul : (grpB u).length ≤ 10 := grpB_len 9 u (Nat.lt_of_lt_of_le hu (by decide))
  have HU : Hid ((grpB u).length ≤ 10) := hul
  have HV := hid hv
  clear hv hul
  go_enter Try.func161, Try.ntmps161
  go_wp2_with fail
  go_loopw [0, 1] (fun v x wr => ∃ (ys : List Int) (m : Nat), x = .int .u64 (m : Int) ∧ m < 18446744073709551616 ∧ LayB base w (zs ++ ys) v wr ∧ ys ++ grpB m = grpB u) (fun _ x _ => (intOf x).toNat)
  case atStart => exact ⟨[], u, rfl, hu, by simpa using LayB.refl HV.out, rfl⟩
  case round =>
    obtain ⟨ys, m, rfl, hm, hO, hg⟩ := hrel
    have hyl : ys.length ≤ 10 := by
      have h1 := HU.out
      rw [← hg, List.length_append] at h1
      omega
    have hsw := hO.bel.size
    have hzl : (zs ++ ys).length ≤ 90010 := by rw [List.length_append]; omega
    have HG := hid hg
    obtain ⟨L, hL⟩ : ∃ L, L = zs ++ ys := ⟨_, rfl⟩
    rw [← hL] at hO hzl
    have HL := hid hL
    have HO := hid hO
    have hrow : wr.ownsRow base 5 1 u0 L.length (L.map (Value.int .u8)) := hO.own
    clear hO hg hL
    by_cases hs : m < 128
    · have hs' : ¬ (128 : Int) ≤ (m : Int) := by omega
      have e1 : (m : Int) % 256 = (m : Int) := by omega
      go_wp2_with (at_builtin; refine wpList_app rfl (.tmp 15) (.tmp 18) 47 5 i0 _ 1 1 Kd rfl base u0 L.length _ rfl (hrow.alloc _) ⟨wr.heap.size, 0, none⟩ 1 1 [.int .u8 (m : Int)] rfl rfl (cell_one_new _ _ _) (one8 _) (by omega) (by omega) (by simp; omega) ?_)
      intro v3 w3 ho3 hg3 hn3
      have HF := hid (HO.out.one (by omega) ho3 hg3)
      clear ho3 hg3 hn3 hrow
      go_wp2
      go_ret
      refine ⟨_, rfl, ?_⟩
      have e : zs ++ grpB u = L ++ [(m : Int)] := by rw [← HG.out, grpB_small hs, HL.out, List.append_assoc]
      rw [e]
      exact HF.out
    · have hs' : (128 : Int) ≤ (m : Int) := by omega
      have e2 : bits BinOp.or IntKind.u8 ((m : Int) % 256) 128 = ((m % 128 + 128 : Nat) : Int) := by
        have h := bits_or128 m
        rw [show ((m % 256 : Nat) : Int) = (m : Int) % 256 by omega] at h
        exact h
      go_wp2_with (at_builtin; refine wpList_app rfl (.tmp 7) (.tmp 11) 47 5 i0 _ 1 1 Kd rfl base u0 L.length _ rfl (hrow.alloc _) ⟨wr.heap.size, 0, none⟩ 1 1 [.int .u8 ((m : Int) % 128 + 128)] rfl rfl (cell_one_new _ _ _) (one8 _) (by omega) (by omega) (by simp; omega) ?_)
      intro v3 w3 ho3 hg3 hn3
      have HF := hid (HO.out.one (by omega) ho3 hg3)
      clear ho3 hg3 hn3 hrow e2
      go_wp2
      go_roundw
      case rel =>
        have e3 : ((m % 128 + 128 : Nat) : Int) = (m : Int) % 128 + 128 := by omega
        refine ⟨ys ++ [(m : Int) % 128 + 128], m / 128, ?_, by omega, by rw [← List.append_assoc, ← HL.out]; exact HF.out, ?_⟩
        · go_num
        · rw [List.append_assoc, List.singleton_append, ← e3, ← grpB_great hs]; exact HG.out
      case measure => simp [intOf]; omega
end Go.Proofs.Ytikfpoabaaiegaa

namespace Go.Proofs.Ytikfpoabaaiegaa
open Go.RowKit
set_option maxRecDepth 8000

/-- what a reading function panics with -/
def faultV (a e : Int) : Value := .iface 236 (.agg #[.int .i64 a, .int .i64 e])
def Fails (e : Int) (x : Ending) : Prop := ∃ a : Int, x = .panicked [{ v := faultV a e, recovered := false }]

set_option maxHeartbeats 1000000 in
theorem giveUp_any (a e : Int) (w : World) : Calls Try.prog 170 #[.int .i64 a, .int .i64 e] w fun x w' => x = .panicked [{ v := faultV a e, recovered := false }] ∧ w' = w := by
  unfold faultV
  go_enter Try.func170, Try.ntmps170
  go_wp2
  exact ⟨rfl, rfl, rfl⟩
set_option maxHeartbeats 1000000 in
theorem fail_any (db : Nat) (s : Value) (a q : Int) (e : Int) (w : World) (hb : Box w db #[s, .int .i64 a, .int .i64 q] 239) : Calls Try.prog 165 #[.pointer (some ⟨db, 0, none⟩), .int .i64 e] w fun x w' => Fails e x ∧ w' = w := by
  have x1 := hb.cell 1
  simp at x1
  have HG := fun W => giveUp_any a e W
  go_enter Try.func165, Try.ntmps165
  go_wp2_with fail
  refine (HG _).mono ?_
  rintro e2 w2 ⟨rfl, hw⟩
  subst w2
  exact ⟨rfl, ⟨a, rfl⟩, rfl⟩

/-- the piece of a list from a place on -/
def from_ (p : Option Addr) (k : Nat) : Option Addr := p.map fun a => a.add k

/-- what taking k bytes comes to -/
def TakePost (w : World) (db : Nat) (p : Option Addr) (n c a q k : Nat) (x : Ending) (w' : World) : Prop :=
  (a + k ≤ n → (∃ p' c', x = .returned (.slice p' k c') ∧ (0 < k → p' = from_ p a)) ∧ Box w' db #[.slice p n c, .int .i64 ((a + k : Nat) : Int), .int .i64 q] 239 ∧ But (fun y => y = db) w w') ∧ (n < a + k → Fails 28 x ∧ But (fun y => y = db) w w')

set_option maxHeartbeats 2000000 in
theorem take_any (db : Nat) (p : Option Addr) (n c a q k : Nat) (w : World) (S : Nat → Prop) (f : Nat → Int) (hB : Byts w S p n c f) (hb : Box w db #[.slice p n c, .int .i64 a, .int .i64 q] 239) (ha : a ≤ n) (hk : k ≤ 1000) :
    Calls Try.prog 169 #[.pointer (some ⟨db, 0, none⟩), .int .i64 k] w fun x w' => TakePost w db p n c a q k x w' := by
  have x0 := hb.cell 0
  have x1 := hb.cell 1
  have f1 := hb.frozen 1
  have hbl := hb.lt
  simp at x0 x1
  have HB := hid hb
  have hnn := hB.nn
  have hcn := hB.nc
  have HY := hid hB
  clear hb hB
  by_cases h : a + k ≤ n
  · have h1 : ¬ ((n : Int) - (a : Int) < (k : Int)) := by omega
    have h2 : IntKind.i64.wrap ((a : Int) + (k : Int)) = (a : Int) + (k : Int) := by rw [IntKind.wrap_i64]; omega
    have h3 : (a : Int) + (k : Int) - (k : Int) = (a : Int) := by omega
    have h4 : (a : Int) ≤ (a : Int) + (k : Int) := by omega
    have h5 : (a : Int) + (k : Int) ≤ (c : Int) := by omega
    have h6 : (0 : Int) ≤ (a : Int) + (k : Int) := by omega
    have h7 : ((a : Int) + (k : Int)).toNat = a + k := by omega
    have hbx : Box (w.setCell ⟨db, 1, none⟩ (.int .i64 ((a : Int) + (k : Int)))) db #[.slice p n c, .int .i64 ((a + k : Nat) : Int), .int .i64 q] 239 := by
      have h := HB.out.set 1 (.int .i64 ((a : Int) + (k : Int)))
      simpa using h
    have HB2 := hid hbx
    have HK2 := hid ((But.one w db).setAt 1 (.int .i64 ((a : Int) + (k : Int))))
    clear hbx
    cases p with
    | none =>
      obtain ⟨rfl, rfl⟩ := HY.out.nil rfl
      obtain rfl : a = 0 := by omega
      obtain rfl : k = 0 := by omega
      go_enter Try.func169, Try.ntmps169
      go_wp2_with fail
      go_region
      go_wp2_with fail
      go_region
      go_wp2
      go_ret
      exact ⟨fun _ => ⟨⟨none, 0, rfl, fun h => by omega⟩, HB2.out.below (Below.refl _ _).drew.drew, HK2.out.drew.drew⟩, fun h => by omega⟩
    | some ad =>
      by_cases hca : c = a
      · subst hca
        obtain rfl : k = 0 := by omega
        go_enter Try.func169, Try.ntmps169
        go_wp2_with fail
        go_region
        go_wp2_with fail
        go_region
        go_wp2
        go_ret
        exact ⟨fun _ => ⟨⟨_, _, rfl, fun h => by omega⟩, HB2.out.below (Below.refl _ _).drew.drew, HK2.out.drew.drew⟩, fun h => by omega⟩
      · go_enter Try.func169, Try.ntmps169
        go_wp2_with fail
        go_region
        go_wp2_with fail
        go_region
        go_wp2
        go_ret
        exact ⟨fun _ => ⟨⟨_, _, rfl, fun _ => rfl⟩, HB2.out.below (Below.refl _ _).drew.drew, HK2.out.drew.drew⟩, fun h => by omega⟩
  · have h1 : (n : Int) - (a : Int) < (k : Int) := by omega
    have HF := fun W hb => fail_any db (.slice p n c) a q 28 W hb
    go_enter Try.func169, Try.ntmps169
    go_wp2_with fail
    go_region
    go_wp2_with fail
    refine (HF _ ?_).mono ?_
    · exact HB.out.below (Below.refl _ _).drew
    · rintro e w2 ⟨⟨a2, rfl⟩, hw⟩
      subst w2
      exact ⟨rfl, fun h2 => absurd h2 h, fun _ => ⟨⟨a2, rfl⟩, (But.refl _ _).drew⟩⟩
end Go.Proofs.Ytikfpoabaaiegaa

namespace Go.Proofs.Ytikfpoabaaiegaa
open Go.RowKit
set_option maxRecDepth 8000

/-- what reading a byte comes to -/
def NextPost (w : World) (db : Nat) (p : Option Addr) (n c a q : Nat) (f : Nat → Int) (x : Ending) (w' : World) : Prop :=
  (a < n → x = .returned (.int .u8 (f a)) ∧ Box w' db #[.slice p n c, .int .i64 ((a + 1 : Nat) : Int), .int .i64 q] 239 ∧ But (fun y => y = db) w w') ∧ (n ≤ a → Fails 28 x ∧ But (fun y => y = db) w w')

set_option maxHeartbeats 1000000 in
theorem next_any (db : Nat) (p : Option Addr) (n c a q : Nat) (w : World) (S : Nat → Prop) (f : Nat → Int) (hB : Byts w S p n c f) (hS : ¬ S db) (hb : Box w db #[.slice p n c, .int .i64 a, .int .i64 q] 239) (ha : a ≤ n) :
    Calls Try.prog 164 #[.pointer (some ⟨db, 0, none⟩)] w fun x w' => NextPost w db p n c a q f x w' := by
  have HT := take_any db p n c a q 1 w S f hB hb ha (by omega)
  have HY := hid hB
  clear hB hb
  go_enter Try.func164, Try.ntmps164
  go_wp2_with fail
  refine HT.mono ?_
  intro x w1 hP
  by_cases h : a < n
  · obtain ⟨⟨p', c', rfl, hp'⟩, hb1, hk1⟩ := hP.1 h
    obtain ⟨b, o, hp, hSb, hbl, hat⟩ := HY.out.at_ (by omega)
    have hp2 := hp' (by omega)
    rw [hp] at hp2
    have hp3 : p' = some ⟨b, o + a, none⟩ := by rw [hp2]; simp [from_, Addr.add]
    subst hp3
    have hne : b ≠ db := fun e => hS (e ▸ hSb)
    have y := (World.cell?_of_block (a := ⟨b, o + a, none⟩) (hk1.block b hbl hne)).trans (hat a h)
    have HF := hid (And.intro hb1 hk1)
    clear hP hb1 hk1 hat hp' hp2 HT
    go_wp2
    go_ret
    exact ⟨fun _ => ⟨rfl, HF.out.1, HF.out.2⟩, fun h2 => by omega⟩
  · obtain ⟨⟨a2, rfl⟩, hk1⟩ := hP.2 (by omega)
    have HF := hid hk1
    clear hP hk1 HT
    exact ⟨rfl, fun h2 => absurd h2 h, fun _ => ⟨⟨a2, rfl⟩, HF.out⟩⟩

/-- what reading a count comes to -/
def CountPost (w : World) (db : Nat) (p : Option Addr) (n c a q : Nat) (f : Nat → Int) (most e : Int) (x : Ending) (w' : World) : Prop :=
  (a < n → f a ≤ most → x = .returned (.int .i64 (f a)) ∧ Box w' db #[.slice p n c, .int .i64 ((a + 1 : Nat) : Int), .int .i64 q] 239 ∧ But (fun y => y = db) w w') ∧ (a < n → most < f a → Fails e x ∧ But (fun y => y = db) w w') ∧ (n ≤ a → Fails 28 x ∧ But (fun y => y = db) w w')

set_option maxHeartbeats 1000000 in
theorem count_any (db : Nat) (p : Option Addr) (n c a q : Nat) (w : World) (S : Nat → Prop) (f : Nat → Int) (most e : Int) (hB : Byts w S p n c f) (hS : ¬ S db) (hb : Box w db #[.slice p n c, .int .i64 a, .int .i64 q] 239) (ha : a ≤ n) :
    Calls Try.prog 168 #[.pointer (some ⟨db, 0, none⟩), .int .i64 most, .int .i64 e] w fun x w' => CountPost w db p n c a q f most e x w' := by
  have HN := next_any db p n c a q w S f hB hS hb ha
  have HFit := hid hB.fit
  clear hB hb
  go_enter Try.func168, Try.ntmps168
  go_wp2_with fail
  refine HN.mono ?_
  intro x w1 hP
  by_cases h : a < n
  · obtain ⟨rfl, hb1, hk1⟩ := hP.1 h
    have hf := HFit.out a h
    obtain ⟨hf1, hf2⟩ := hf
    have HF := hid (And.intro hb1 hk1)
    clear hP hb1 hk1 HN
    by_cases hm : f a ≤ most
    · have hm' : ¬ most < f a := by omega
      go_wp2
      go_ret
      exact ⟨fun _ _ => ⟨rfl, HF.out.1, HF.out.2⟩, fun _ h2 => by omega, fun h2 => by omega⟩
    · have hm' : most < f a := by omega
      have HFa := fail_any db (.slice p n c) ((a + 1 : Nat) : Int) q e w1 HF.out.1
      go_wp2_with fail
      refine HFa.mono ?_
      rintro x2 w2 ⟨⟨a2, rfl⟩, hw⟩
      subst w2
      exact ⟨rfl, fun _ h2 => by omega, fun _ _ => ⟨⟨a2, rfl⟩, HF.out.2⟩, fun h2 => by omega⟩
  · obtain ⟨⟨a2, rfl⟩, hk1⟩ := hP.2 (by omega)
    have HF := hid hk1
    clear hP hk1 HN
    exact ⟨rfl, fun h2 => absurd h2 h, fun h2 => absurd h2 h, fun _ => ⟨⟨a2, rfl⟩, HF.out⟩⟩
end Go.Proofs.Ytikfpoabaaiegaa

namespace Go.Proofs.Ytikfpoabaaiegaa
open Go.RowKit
set_option maxRecDepth 8000

/-- the number whose groups begin at a: the number, and where it ends; none: it is none -/
def grpS (f : Nat → Int) (n : Nat) : Nat → Nat → Nat → Nat → Option (Nat × Nat)
  | 0, _, _, _ => none
  | k + 1, a, i, u => if n ≤ a then none else if (0 < i ∧ (f a).toNat = 0) ∨ (i = 9 ∧ 1 < (f a).toNat) then none
    else if (f a).toNat < 128 then some (u ||| ((f a).toNat % 128) * 2 ^ (7 * i), a + 1) else grpS f n k (a + 1) (i + 1) (u ||| ((f a).toNat % 128) * 2 ^ (7 * i))
def GrpPost (w : World) (db : Nat) (p : Option Addr) (n c q : Nat) (r : Option (Nat × Nat)) (x : Ending) (w' : World) : Prop :=
  (∀ u a', r = some (u, a') → x = .returned (.int .u64 (u : Int)) ∧ Box w' db #[.slice p n c, .int .i64 (a' : Int), .int .i64 q] 239 ∧ But (fun y => y = db) w w') ∧ (r = none → Fails 28 x ∧ But (fun y => y = db) w w')
theorem andnot128 (c : Nat) (h : c < 256) : bits BinOp.andNot IntKind.u8 (c : Int) 128 = ((c % 128 : Nat) : Int) := by
  have h2 : ∀ v : Nat, v < 256 → bits BinOp.andNot IntKind.u8 (v : Int) 128 = ((v % 128 : Nat) : Int) := by decide
  exact h2 c h
theorem grp_fits {c i : Nat} (hi : i ≤ 9) (h : i = 9 → c ≤ 1) : c % 128 * 2 ^ (7 * i) < 2 ^ 64 := by
  rcases (by omega : i = 9 ∨ i ≤ 8) with rfl | h8
  · have := h rfl
    have h1 : c % 128 ≤ 1 := by omega
    calc c % 128 * 2 ^ (7 * 9) ≤ 1 * 2 ^ 63 := Nat.mul_le_mul h1 (by decide)
      _ < 2 ^ 64 := by decide
  · have h1 : c % 128 < 128 := by omega
    calc c % 128 * 2 ^ (7 * i) ≤ 127 * 2 ^ (7 * i) := Nat.mul_le_mul (by omega) (Nat.le_refl _)
      _ ≤ 127 * 2 ^ 56 := Nat.mul_le_mul (Nat.le_refl _) (Nat.pow_le_pow_right (by omega) (by omega))
      _ < 2 ^ 64 := by decide

set_option maxHeartbeats 2000000 in
theorem groups_any (db : Nat) (p : Option Addr) (n c a q : Nat) (w : World) (S : Nat → Prop) (f : Nat → Int) (hB : Byts w S p n c f) (hS : ¬ S db) (hb : Box w db #[.slice p n c, .int .i64 a, .int .i64 q] 239) (ha : a ≤ n) :
    Calls Try.prog 167 #[.pointer (some ⟨db, 0, none⟩)] w fun x w' => GrpPost w db p n c q (grpS f n 10 a 0 0) x w' := by
  have HY := hid hB
  have HB := hid hb
  generalize hR : grpS f n 10 a 0 0 = R
  clear hB hb
  go_enter Try.func167, Try.ntmps167
  go_wp2_with fail
  go_loopw [3, 4] (fun y x wr => ∃ (i u a' : Nat), i ≤ 9 ∧ y = .int .u64 (u : Int) ∧ x = .int .i64 ((7 * i : Nat) : Int) ∧ u < 2 ^ 64 ∧ a' ≤ n ∧ grpS f n (10 - i) a' i u = R ∧ Box wr db #[.slice p n c, .int .i64 (a' : Int), .int .i64 q] 239 ∧ But (fun y => y = db) w wr) (fun _ x _ => 100 - (intOf x).toNat)
  case atStart => exact ⟨0, 0, a, by omega, rfl, rfl, by decide, ha, hR, HB.out, But.refl _ _⟩
  case round =>
    obtain ⟨i, u, a', hi, rfl, rfl, hu, ha', hg, hbx, hk⟩ := hrel
    have hB1 : Byts wr S p n c f := HY.out.kept hk.size fun b hb hl => hk.block b hl (fun e => hS (e ▸ hb))
    have HN := next_any db p n c a' q wr S f hB1 hS hbx ha'
    have HK := hid hk
    have HG := hid hg
    clear hk hbx hg hB1
    go_wp2_with fail
    refine HN.mono ?_
    intro x w1 hP
    have HE : Hid (10 - i = (9 - i) + 1) := by unfold Hid; omega
    by_cases h : a' < n
    · obtain ⟨rfl, hb1, hk1⟩ := hP.1 h
      obtain ⟨hf1, hf2⟩ := HY.out.fit a' h
      obtain ⟨C, hC⟩ := Int.eq_ofNat_of_zero_le hf1
      have hg2 := HG.out
      rw [HE.out, grpS, if_neg (by omega), hC] at hg2
      simp only [Int.toNat_natCast] at hg2
      have HG2 := hid hg2
      have HF := hid (And.intro hb1 (HK.out.trans hk1))
      clear hP hb1 hk1 HN hg2
      rw [hC]
      have hC2 : C < 256 := by omega
      have e1 := andnot128 C hC2
      have HFa := hid (fail_any db (.slice p n c) ((a' + 1 : Nat) : Int) q 28 w1 HF.out.1)
      by_cases hbad : (0 < i ∧ C = 0) ∨ (i = 9 ∧ 1 < C)
      · have hr : R = none := by have h2 := HG2.out; rw [if_pos hbad] at h2; exact h2.symm
        have HRn := hid hr
        clear hr
        rcases (by omega : (0 < i ∧ C = 0) ∨ (i = 9 ∧ 1 < C)) with ⟨h1, rfl⟩ | ⟨rfl, h1⟩
        · have h1' : (0 : Int) < 7 * (i : Int) := by omega
          go_wp2_with fail
          refine HFa.out.mono ?_
          rintro x2 w2 ⟨⟨a2, rfl⟩, hw⟩
          subst w2
          exact ⟨rfl, fun u2 a3 h2 => (by rw [HRn.out] at h2; cases h2), fun _ => ⟨⟨a2, rfl⟩, HF.out.2⟩⟩
        · have h1' : (1 : Int) < (C : Int) := by omega
          have h2' : ¬ (C : Int) = 0 := by omega
          go_wp2_with fail
          refine HFa.out.mono ?_
          rintro x2 w2 ⟨⟨a2, rfl⟩, hw⟩
          subst w2
          exact ⟨rfl, fun u2 a3 h2 => (by rw [HRn.out] at h2; cases h2), fun _ => ⟨⟨a2, rfl⟩, HF.out.2⟩⟩
      · have hg3 := HG2.out
        rw [if_neg hbad] at hg3
        have HG3 := hid hg3
        have hfit := grp_fits (c := C) hi (fun h9 => by omega)
        obtain ⟨V, hV⟩ : ∃ V, V = C % 128 * 2 ^ (7 * i) := ⟨_, rfl⟩
        rw [← hV] at hfit
        have hor := bits_or_u64_nat u V (by omega) (by omega)
        have HV := hid hV
        clear hg3 hV
        have hfit2 := hid hfit
        have HRs : C < 128 → R = some (u ||| V, a' + 1) := fun h2 => by have h3 := HG3.out; rw [if_pos h2, ← HV.out] at h3; exact h3.symm
        have HRr : ¬ C < 128 → grpS f n (10 - (i + 1)) (a' + 1) (i + 1) (u ||| V) = R := fun h2 => by have h3 := HG3.out; rw [if_neg h2, ← HV.out] at h3; rw [show 10 - (i + 1) = 9 - i by omega]; exact h3
        have HRs := hid HRs
        have HRr := hid HRr
        by_cases hi0 : i = 0
        · subst hi0
          have e0 : (C : Int) % 128 = (V : Int) := by have := HV.out; omega
          by_cases hlt : C < 128
          · have hlt' : (C : Int) < 128 := by omega
            have HRs := hid (HRs.out hlt)
            clear HRr HV hfit HG2 HG3
            go_wp2
            go_ret
            exact ⟨fun u2 a3 h2 => (by rw [HRs.out] at h2; cases h2; exact ⟨rfl, HF.out.1, HF.out.2⟩), fun h2 => (by rw [HRs.out] at h2; cases h2)⟩
          · have hlt' : ¬ (C : Int) < 128 := by omega
            have HRr := hid (HRr.out hlt)
            clear HRs HV hfit HG2 HG3
            go_wp2
            go_roundw
            case rel => exact ⟨0 + 1, u ||| V, a' + 1, by omega, rfl, by go_num, Nat.or_lt_two_pow hu hfit2.out, by omega, HRr.out, HF.out.1, HF.out.2⟩
            case measure => simp [intOf]
        · have h1' : (0 : Int) < 7 * (i : Int) := by omega
          have h2' : ¬ (C : Int) = 0 := by omega
          have h2b : ((C : Int) == 0) = false := by simpa using h2'
          by_cases hi9 : i = 9
          · subst hi9
            have h3' : ¬ (1 : Int) < (C : Int) := by omega
            have hlt : C < 128 := by omega
            have hlt' : (C : Int) < 128 := by omega
            have e0 : (C : Int) % 128 * 9223372036854775808 = (V : Int) := by
              have := HV.out
              rw [this]
              omega
            have HRs := hid (HRs.out hlt)
            clear HRr HV hfit HG2 HG3
            go_wp2
            go_ret
            exact ⟨fun u2 a3 h2 => (by rw [HRs.out] at h2; cases h2; exact ⟨rfl, HF.out.1, HF.out.2⟩), fun h2 => (by rw [HRs.out] at h2; cases h2)⟩
          · have h3' : ¬ 7 * (i : Int) = 63 := by omega
            have e0 : IntKind.u64.wrap ((C : Int) % 128 * 2 ^ (7 * i)) = (V : Int) := by
              have h2 : (C : Int) % 128 * 2 ^ (7 * i) = (V : Int) := by rw [HV.out]; simp
              rw [h2, wrap_u64]; omega
            by_cases hlt : C < 128
            · have hlt' : (C : Int) < 128 := by omega
              have HRs := hid (HRs.out hlt)
              clear HRr HV hfit HG2 HG3
              go_wp2
              go_ret
              exact ⟨fun u2 a3 h2 => (by rw [HRs.out] at h2; cases h2; exact ⟨rfl, HF.out.1, HF.out.2⟩), fun h2 => (by rw [HRs.out] at h2; cases h2)⟩
            · have hlt' : ¬ (C : Int) < 128 := by omega
              have HRr := hid (HRr.out hlt)
              clear HRs HV hfit HG2 HG3
              go_wp2
              go_roundw
              case rel => exact ⟨i + 1, u ||| V, a' + 1, by omega, rfl, by go_num, Nat.or_lt_two_pow hu hfit2.out, by omega, HRr.out, HF.out.1, HF.out.2⟩
              case measure => simp [intOf]; omega
    · obtain ⟨⟨a2, rfl⟩, hk1⟩ := hP.2 (by omega)
      have hr : R = none := by have h2 := HG.out; rw [HE.out, grpS, if_pos (by omega)] at h2; exact h2.symm
      have HF := hid (HK.out.trans hk1)
      have HRn := hid hr
      clear hP hk1 HN hr
      exact ⟨rfl, fun u2 a3 h2 => (by rw [HRn.out] at h2; cases h2), fun _ => ⟨⟨a2, rfl⟩, HF.out⟩⟩
end Go.Proofs.Ytikfpoabaaiegaa

namespace Go.Proofs.Ytikfpoabaaiegaa
open Go.RowKit
set_option maxRecDepth 8000

/-- the int of a folded number -/
def unfoldI (u : Nat) : Int := if u % 2 = 1 then -1 - ((u / 2 : Nat) : Int) else ((u / 2 : Nat) : Int)
theorem and_one64 (u : Nat) (hu : u < 2 ^ 64) : bits BinOp.and IntKind.u64 (u : Int) 1 = ((u % 2 : Nat) : Int) := by
  have h := bits_and_u64_nat u 1 (by omega) (by omega)
  rw [Nat.and_one_is_mod] at h
  exact h
theorem compl_half (u : Nat) (hu : u < 2 ^ 64) : bits BinOp.xor IntKind.u64 IntKind.u64.max ((u / 2 : Nat) : Int) = ((18446744073709551616 - (u / 2 + 1) : Nat) : Int) := by
  have hm : IntKind.u64.max = ((18446744073709551615 : Nat) : Int) := by decide
  have h2 := bits_xor_u64_nat 18446744073709551615 (u / 2) (by omega) (by omega)
  have h3 : 18446744073709551615 ^^^ (u / 2) = 18446744073709551616 - (u / 2 + 1) := compl64 (u / 2) (by omega)
  rw [h3] at h2
  rw [hm, h2]

set_option maxHeartbeats 1000000 in
theorem unfold_any (u : Nat) (hu : u < 2 ^ 64) (w : World) : Calls Try.prog 166 #[.int .u64 (u : Int)] w fun e w' => e = .returned (.int .i64 (unfoldI u)) ∧ w' = w := by
  have h1 := and_one64 u hu
  by_cases h : u % 2 = 1
  · have hb : (((u % 2 : Nat) : Int) == 1) = true := by rw [h]; rfl
    have hc := compl_half u hu
    have hr : IntKind.i64.wrap ((18446744073709551616 - (u / 2 + 1) : Nat) : Int) = unfoldI u := by
      unfold unfoldI
      rw [if_pos h, IntKind.wrap_i64]
      omega
    rw [h] at h1
    go_enter Try.func166, Try.ntmps166
    go_wp2
    go_ret
    refine ⟨?_, rfl⟩
    have e : wrap64 (bits BinOp.xor IntKind.u64 IntKind.u64.max ((u : Int) / 2)) = unfoldI u := by
      rw [show (u : Int) / 2 = ((u / 2 : Nat) : Int) by omega, hc]
      rw [wrap64, ← IntKind.wrap_i64]
      exact hr
    first | exact congrArg (fun z => Ending.returned (Value.int .i64 z)) e | (rw [← e]; rfl)
  · have h0 : u % 2 = 0 := by omega
    rw [h0] at h1
    have hr : unfoldI u = (u : Int) / 2 := by unfold unfoldI; rw [if_neg h]; omega
    go_enter Try.func166, Try.ntmps166
    go_wp2
    go_ret
    exact ⟨by first | rfl | (rw [hr]; rfl), rfl⟩
end Go.Proofs.Ytikfpoabaaiegaa
