import Derived.Test.YtehpdhhlggegdaaPack9
import Derived.Test.YtehpdhhlggegdaaPack2
namespace Go.Proofs.Ytehpdhhlggegdaa
open Go.RowKit
set_option maxRecDepth 8000

theorem compl64 (X : Nat) (h : X < 2 ^ 64) : (2 ^ 64 - 1) ^^^ X = 2 ^ 64 - (X + 1) := by
  apply Nat.eq_of_testBit_eq
  intro i
  rw [Nat.testBit_xor, Nat.testBit_two_pow_sub_one, Nat.testBit_two_pow_sub_succ h]
  by_cases hi : i < 64
  · simp [hi]
  · have hx : X.testBit i = false := Nat.testBit_lt_two_pow (Nat.lt_of_lt_of_le h (Nat.pow_le_pow_right (by omega) (by omega)))
    simp [hi, hx]
theorem or_one (Y : Nat) : (2 * Y) ||| 1 = 2 * Y + 1 := by
  have := Nat.shiftLeft_add_eq_or_of_lt (b := 1) (i := 1) (by omega) Y
  rw [Nat.shiftLeft_eq] at this
  rw [Nat.mul_comm, show Y * 2 = Y * 2 ^ 1 from rfl, ← this]
theorem fold_neg (i : Int) (h1 : -9223372036854775808 ≤ i) (h : i < 0) :
    bits BinOp.or IntKind.u64 (IntKind.u64.wrap (bits BinOp.xor IntKind.u64 IntKind.u64.max (IntKind.u64.wrap i) * 2)) 1 = ((foldN i : Nat) : Int) := by
  obtain ⟨X, hX⟩ := Int.eq_ofNat_of_zero_le (show 0 ≤ i + 18446744073709551616 by omega)
  have e : IntKind.u64.wrap i = (X : Int) := by rw [wrap_u64]; omega
  have hm : IntKind.u64.max = ((18446744073709551615 : Nat) : Int) := by decide
  have h2 := bits_xor_u64_nat 18446744073709551615 X (by omega) (by omega)
  have h3 : 18446744073709551615 ^^^ X = 18446744073709551616 - (X + 1) := compl64 X (by omega)
  rw [h3] at h2
  rw [e, hm, h2]
  obtain ⟨Y, hY⟩ : ∃ Y : Nat, Y = 18446744073709551616 - (X + 1) := ⟨_, rfl⟩
  rw [← hY]
  have e2 : IntKind.u64.wrap ((Y : Int) * 2) = ((2 * Y : Nat) : Int) := by rw [wrap_u64]; omega
  have h4 := bits_or_u64_nat (2 * Y) 1 (by omega) (by omega)
  rw [or_one] at h4
  rw [e2]
  have h5 : foldN i = 2 * Y + 1 := by unfold foldN; rw [if_pos h]; omega
  rw [h5]
  exact h4

set_option maxHeartbeats 1000000 in
theorem fold_any (i : Int) (h1 : -9223372036854775808 ≤ i) (h2 : i ≤ 9223372036854775807) (w : World) :
    Calls Try.prog 72 #[.int .i64 i] w fun e w' => e = .returned (.int .u64 (foldN i)) ∧ w' = w := by
  by_cases h : i < 0
  · have e := fold_neg i h1 h
    go_enter Try.func72, Try.ntmps72
    go_wp2
    go_ret
    exact ⟨by first | rfl | (rw [← e]; rfl), rfl⟩
  · have e : ((foldN i : Nat) : Int) = i * 2 := by unfold foldN; rw [if_neg h]; omega
    go_enter Try.func72, Try.ntmps72
    go_wp2
    go_ret
    exact ⟨by first | rfl | (rw [e]; rfl), rfl⟩

theorem one8 (x : Int) : ∀ u ∈ [Value.int .u8 x], u.oneCell' = true := by
  intro u hu
  simp only [List.mem_singleton] at hu
  subst hu
  rfl
/-- one more byte -/
theorem OwnBy.one {base : Nat} {w w' : World} {v v' : Value} {zs : List Int} {x : Int} (h : OwnBy base w v zs) (ho : w'.ownsRow base 5 1 v' (zs.length + 1) (zs.map (Value.int .u8) ++ [.int .u8 x])) : OwnBy base w' v' (zs ++ [x]) := h.app (ys := [x]) ho
theorem below_row {base : Nat} {w w1 w2 : World} {v : Value} {zs : List Int} (hb : Below base w w1) (hB : base ≤ w1.heap.size) (hv : OwnBy base w1 v zs) (o : Obj) (hg : (w1.alloc o).grownBy w2 v.ownBlock) : Below base w w2 :=
  (hb.trans (((Below.refl w1.heap.size w1).alloc (Nat.le_refl _) o).mono hB)).grown hg (by simp; omega) (fun k hk => (World.ownsRow.lt hv k hk).1)

/-- what is no row of bytes stays -/
def KeepN (w w' : World) : Prop := ∀ (B : Nat) (cs : Array Value) (e : TypeId) (z : Nat × Nat), e ≠ 5 → w.heap[B]? = some (Obj.cells cs e z) → w'.heap[B]? = some (Obj.cells cs e z)
theorem KeepN.refl (w : World) : KeepN w w := fun _ _ _ _ _ h => h
theorem KeepN.trans {a b c : World} (h : KeepN a b) (k : KeepN b c) : KeepN a c := fun B cs e z he hb => k B cs e z he (h B cs e z he hb)
theorem KeepN.below {w w' : World} (h : Below w.heap.size w w') : KeepN w w' := fun B cs e z _ hb => by
  have hl : B < w.heap.size := by
    rcases Nat.lt_or_ge B w.heap.size with h1 | h1
    · exact h1
    · rw [Array.getElem?_eq_none h1] at hb; cases hb
  rw [h.block B hl]; exact hb
theorem KeepN.box {w w' : World} (h : KeepN w w') {B : Nat} {cs : Array Value} {e : TypeId} (he : e ≠ 5) (hb : Box w B cs e) : Box w' B cs e := h B cs e (0, 0) he hb
theorem KeepN.grown {base : Nat} {w w' : World} {v : Value} {zs : List Int} (hv : OwnBy base w v zs) (hg : w.grownBy w' v.ownBlock) : KeepN w w' := fun B cs e z he hb => by
  have hl : B < w.heap.size := by
    rcases Nat.lt_or_ge B w.heap.size with h1 | h1
    · exact h1
    · rw [Array.getElem?_eq_none h1] at hb; cases hb
  refine (hg.block B hl fun hB => ?_).trans hb
  obtain ⟨_, ⟨hv2, _⟩ | ⟨g, cap, cur, hv2, _, hh, _⟩⟩ := id hv
  · rw [hv2] at hB; cases hB
  · rw [hv2] at hB
    have e1 : B = g := by simpa [Value.ownBlock] using hB
    rw [e1, hh] at hb
    simp only [Option.some.injEq, Obj.cells.injEq] at hb
    exact he hb.2.1.symm
/-- bytes laid behind a row -/
structure LayB (base : Nat) (w : World) (zs : List Int) (v' : Value) (w' : World) : Prop where
  own : OwnBy base w' v' zs
  bel : Below base w w'
  keep : KeepN w w'
theorem LayB.refl {base : Nat} {w : World} {v : Value} {zs : List Int} (h : OwnBy base w v zs) : LayB base w zs v w := ⟨h, Below.refl _ _, KeepN.refl _⟩
theorem LayB.lift {base : Nat} {a w w' : World} {v' : Value} {zs : List Int} (h : LayB base w zs v' w') (hb : Below base a w) (hk : KeepN a w) : LayB base a zs v' w' := ⟨h.own, hb.trans h.bel, hk.trans h.keep⟩
/-- one byte more, by an append of a new list -/
theorem LayB.one {base : Nat} {a w w' : World} {v v' : Value} {zs : List Int} {x : Int} (h : LayB base a zs v w) (hB : base ≤ w.heap.size) (ho : w'.ownsRow base 5 1 v' (zs.length + 1) (zs.map (Value.int .u8) ++ [.int .u8 x])) (hg : (w.alloc (.cells #[.int .u8 x] 5)).grownBy w' v.ownBlock) : LayB base a (zs ++ [x]) v' w' :=
  ⟨h.own.one ho, below_row h.bel hB h.own _ hg, (h.keep.trans (KeepN.below ((Below.refl _ _).alloc (Nat.le_refl _) _))).trans (KeepN.grown (h.own.below ((Below.refl _ _).alloc (Nat.le_refl _) _)) hg)⟩
/-- a text's bytes more -/
theorem LayB.text {base : Nat} {a w w' : World} {v v' : Value} {zs : List Int} {s : ByteArray} (h : LayB base a zs v w) (hB : base ≤ w.heap.size) (ho : w'.ownsRow base 5 1 v' (zs.length + s.size) (zs.map (Value.int .u8) ++ Go.Lib.strCells s)) (hg : w.grownBy w' v.ownBlock) : LayB base a (zs ++ txtB s) v' w' :=
  ⟨h.own.app (by rw [← strCells_txt, txtB_len]; exact ho), h.bel.grown hg hB (fun k hk => (World.ownsRow.lt h.own k hk).1), h.keep.trans (KeepN.grown h.own hg)⟩
def EPost (base : Nat) (w : World) (zs : List Int) (e : Ending) (w' : World) : Prop := ∃ v', e = .returned v' ∧ LayB base w zs v' w'

set_option maxHeartbeats 1000000 in
theorem appendGroups_any (u : Nat) (hu : u < 18446744073709551616) (base : Nat) (w : World) (v : Value) (zs : List Int) (hv : OwnBy base w v zs) (hb : base ≤ w.heap.size) (hz : zs.length ≤ 90000) :
    Calls Try.prog 71 #[v, .int .u64 u] w fun e w' => EPost base w (zs ++ grpB u) e w' := by
  obtain ⟨i0, Kd⟩ := kindB
  have hul : (grpB u).length ≤ 10 := grpB_len 9 u (Nat.lt_of_lt_of_le hu (by decide))
  have HU : Hid ((grpB u).length ≤ 10) := hul
  have HV := hid hv
  clear hv hul
  go_enter Try.func71, Try.ntmps71
  go_wp2_with fail
  go_loopw [0, 1] (fun v x wr => ∃ (ys : List Int) (m : Nat), x = .int .u64 (m : Int) ∧ m < 18446744073709551616 ∧ LayB base w (zs ++ ys) v wr ∧ ys ++ grpB m = grpB u) (fun _ x _ => (intOf x).toNat)
  case atStart => exact ⟨[], u, rfl, hu, by simpa using LayB.refl HV.out, rfl⟩
  case round =>
    obtain ⟨ys, m, rfl, hm, hO, hg⟩ := hrel
    have hyl : ys.length ≤ 10 := by
      have h1 := HU.out
      rw [← hg, List.length_append] at h1
      omega
    have hsw := hO.bel.size
    have hzl : (zs ++ ys).length ≤ 90010 := by rw [List.length_append]; omega
    have HG := hid hg
    obtain ⟨L, hL⟩ : ∃ L, L = zs ++ ys := ⟨_, rfl⟩
    rw [← hL] at hO hzl
    have HL := hid hL
    have HO := hid hO
    have hrow : wr.ownsRow base 5 1 u0 L.length (L.map (Value.int .u8)) := hO.own
    clear hO hg hL
    by_cases hs : m < 128
    · have hs' : ¬ (128 : Int) ≤ (m : Int) := by omega
      have e1 : (m : Int) % 256 = (m : Int) := by omega
      go_wp2_with (at_builtin; refine wpList_app rfl (.tmp 15) (.tmp 18) 62 5 i0 _ 1 1 Kd rfl base u0 L.length _ rfl (hrow.alloc _) ⟨wr.heap.size, 0, none⟩ 1 1 [.int .u8 (m : Int)] rfl rfl (cell_one_new _ _ _) (one8 _) (by omega) (by omega) (by simp; omega) ?_)
      intro v3 w3 ho3 hg3 hn3
      have HF := hid (HO.out.one (by omega) ho3 hg3)
      clear ho3 hg3 hn3 hrow
      go_wp2
      go_ret
      refine ⟨_, rfl, ?_⟩
      have e : zs ++ grpB u = L ++ [(m : Int)] := by rw [← HG.out, grpB_small hs, HL.out, List.append_assoc]
      rw [e]
      exact HF.out
    · have hs' : (128 : Int) ≤ (m : Int) := by omega
      have e2 : bits BinOp.or IntKind.u8 ((m : Int) % 256) 128 = ((m % 128 + 128 : Nat) : Int) := by
        have h := bits_or128 m
        rw [show ((m % 256 : Nat) : Int) = (m : Int) % 256 by omega] at h
        exact h
      go_wp2_with (at_builtin; refine wpList_app rfl (.tmp 7) (.tmp 11) 62 5 i0 _ 1 1 Kd rfl base u0 L.length _ rfl (hrow.alloc _) ⟨wr.heap.size, 0, none⟩ 1 1 [.int .u8 ((m : Int) % 128 + 128)] rfl rfl (cell_one_new _ _ _) (one8 _) (by omega) (by omega) (by simp; omega) ?_)
      intro v3 w3 ho3 hg3 hn3
      have HF := hid (HO.out.one (by omega) ho3 hg3)
      clear ho3 hg3 hn3 hrow e2
      go_wp2
      go_roundw
      case rel =>
        have e3 : ((m % 128 + 128 : Nat) : Int) = (m : Int) % 128 + 128 := by omega
        refine ⟨ys ++ [(m : Int) % 128 + 128], m / 128, ?_, by omega, by rw [← List.append_assoc, ← HL.out]; exact HF.out, ?_⟩
        · go_num
        · rw [List.append_assoc, List.singleton_append, ← e3, ← grpB_great hs]; exact HG.out
      case measure => simp [intOf]; omega
end Go.Proofs.Ytehpdhhlggegdaa

namespace Go.Proofs.Ytehpdhhlggegdaa
open Go.RowKit
set_option maxRecDepth 8000

/-- bytes in a row, in a block of S -/
structure Byts (w : World) (S : Nat → Prop) (p : Option Addr) (n c : Nat) (f : Nat → Int) : Prop where
  at_ : 0 < n → ∃ b o, p = some ⟨b, o, none⟩ ∧ S b ∧ b < w.heap.size ∧ ∀ j, j < n → w.cell? ⟨b, o + j, none⟩ = some (.int .u8 (f j))
  nc : n ≤ c
  nn : n ≤ 140737488355328
  cc : c ≤ maxLen
  fit : ∀ j, j < n → 0 ≤ f j ∧ f j < 256
  nil : p = none → n = 0 ∧ c = 0
theorem Byts.kept {w w' : World} {S : Nat → Prop} {p : Option Addr} {n c : Nat} {f : Nat → Int} (h : Byts w S p n c f) (hs : w.heap.size ≤ w'.heap.size) (hb : ∀ b, S b → b < w.heap.size → w'.heap[b]? = w.heap[b]?) : Byts w' S p n c f := by
  refine ⟨fun hn => ?_, h.nc, h.nn, h.cc, h.fit, h.nil⟩
  obtain ⟨b, o, e, hS, hl, ha⟩ := h.at_ hn
  exact ⟨b, o, e, hS, Nat.lt_of_lt_of_le hl hs, fun j hj => (World.cell?_of_block (a := ⟨b, o + j, none⟩) (hb b hS hl)).trans (ha j hj)⟩
theorem Byts.mono {w : World} {S S' : Nat → Prop} {p : Option Addr} {n c : Nat} {f : Nat → Int} (h : Byts w S p n c f) (hb : ∀ b, S b → b < w.heap.size → S' b) : Byts w S' p n c f := by
  refine ⟨fun hn => ?_, h.nc, h.nn, h.cc, h.fit, h.nil⟩
  obtain ⟨b, o, e, hS, hl, ha⟩ := h.at_ hn
  exact ⟨b, o, e, hb b hS hl, hl, ha⟩
theorem Byts.src {w : World} {S : Nat → Prop} {p : Option Addr} {n c : Nat} {f : Nat → Int} (h : Byts w S p n c f) : Src w p n c 1 ((List.range n).map fun j => .int .u8 (f j)) := by
  cases p with
  | none => obtain ⟨rfl, rfl⟩ := h.nil rfl; exact .inl ⟨rfl, rfl, rfl, rfl⟩
  | some ad =>
    refine .inr ⟨ad, rfl, by simp, fun j u hu => ?_⟩
    by_cases hj : j < n
    · obtain ⟨b, o, e, _, _, ha⟩ := h.at_ (by omega)
      cases e
      rw [Go.WideShapes.add_plain, ha j hj]
      simp [List.getElem?_range hj] at hu
      rw [hu]
    · simp [List.getElem?_eq_none (show ((List.range n).map fun j => Value.int .u8 (f j)).length ≤ j by simp; omega)] at hu
theorem oneCell_byts (n : Nat) (f : Nat → Int) : ∀ u ∈ ((List.range n).map fun j => Value.int .u8 (f j)), u.oneCell' = true := by
  intro u hu
  obtain ⟨j, _, rfl⟩ := List.mem_map.1 hu
  rfl
theorem kindBs : ∃ i, Kind 35 62 i (.slice none 0 0) 1 24 := by
  obtain ⟨i0, hi, hz0, hz1, hz2⟩ := info_parts (show (Try.prog.info? 62).map (fun i => (i.zero, i.size, i.bytes)) = some (some (.slice none 0 0), 1, 24) by kernel_rfl)
  exact ⟨i0, Try.underlying35, hi, hz0, hz1, hz2, rfl, by decide⟩

/-- a row of ints that is being filled, beside a room -/
structure FillB (B : Nat) (w : World) (R : RS) (v : Value) (n : Nat) (g : Nat → Int) : Prop where
  row : w.ownsRow B 5 1 v n ((List.range n).map fun j => .int .u8 (g j))
  sep : ∀ b, v.ownBlock = some b → ¬ R.foot b
theorem FillB.below {B : Nat} {w w' : World} {R : RS} {v : Value} {n : Nat} {g : Nat → Int} (h : FillB B w R v n g) (hb : Below w.heap.size w w') : FillB B w' R v n g :=
  ⟨ownsRow_keep h.row fun k _ hl => hb.block k hl, h.sep⟩
theorem FillB.room {B base : Nat} {w w' : World} {R : RS} {v : Value} {n : Nat} {g : Nat → Int} (h : FillB B w R v n g) (hr : Rm base w R) (hg : w.grownBy w' v.ownBlock) : Rm base w' R :=
  hr.keep hg.size fun b hb => hg.block b (hr.footlt hb) fun e => h.sep b e.symm hb
theorem FillB.next {B base : Nat} {w w' : World} {R : RS} {v v' : Value} {n m : Nat} {g g' : Nat → Int} (h : FillB B w R v n g) (hr : Rm base w R) (hn : Near w v v') (hown : w'.ownsRow B 5 1 v' m ((List.range m).map fun j => .int .u8 (g' j))) : FillB B w' R v' m g' := by
  refine ⟨hown, fun b hb hf => ?_⟩
  rcases hn with h1 | h1
  · exact h.sep b (h1 ▸ hb) hf
  · have := h1 b hb
    have := hr.footlt hf
    omega
theorem map_pushB (g : Nat → Int) (n : Nat) : ((List.range (n + 1)).map fun j => Value.int .u8 (g j)) = ((List.range n).map fun j => Value.int .u8 (g j)) ++ [.int .u8 (g n)] := by
  rw [List.range_succ, List.map_append]; rfl
theorem map_sameB {g g' : Nat → Int} {n : Nat} (h : ∀ j, j < n → g j = g' j) : ((List.range n).map fun j => Value.int .u8 (g j)) = ((List.range n).map fun j => Value.int .u8 (g' j)) := by
  apply List.map_congr_left
  intro j hj
  rw [h j (List.mem_range.1 hj)]
/-- ints and marks behind them -/
def withLotsB (n : Nat) (f : Nat → Int) (q : Nat) : Int := if q < n then f q else lotN (q - n) % 256
/-- what comes of a list of ints with room -/
structure RoomedB (base : Nat) (w : World) (R : RS) (n : Nat) (f : Nat → Int) (p : Option Addr) (c : Nat) (w' : World) (R' : RS) : Prop where
  ints : Byts w' (fun b => w.heap.size ≤ b ∧ ¬ R'.hot b) p n c f
  rm : Rm base w' R'
  rb : R'.rb = R.rb
  hot : ∀ b, R'.hot b → R.hot b ∨ w.heap.size ≤ b
  foot : ∀ b, R'.foot b → R.foot b ∨ w.heap.size ≤ b
  same : ∀ i, i ≠ 9 → R'.F i = R.F i ∧ R'.L i = R.L i
  but : But R.hot w w'
  cnt : ∀ i, i < 10 → (R'.L i).length ≤ (R.L i).length + 1
def BPost (base : Nat) (w : World) (R : RS) (n : Nat) (f : Nat → Int) (e : Ending) (w' : World) : Prop := ∃ p c R', e = .returned (.slice p n c) ∧ RoomedB base w R n f p c w' R'

theorem byts_post {base : Nat} {w wr w' : World} {R : RS} {n : Nat} {f : Nat → Int} {gb cap x z : Nat} {v5 : Value} (hgB : w.heap.size ≤ gb) (hgl : gb < wr.heap.size) (hF : FillB w.heap.size wr R (.slice (some ⟨gb, 0, none⟩) (n + x) cap) (n + x) (withLotsB n f)) (hBm : But R.hot w wr) (hfit : ∀ j, j < n → 0 ≤ f j ∧ f j < 256)
    (hput : Rm base w' (R.put z v5 ⟨gb, n + x, cap⟩) ∧ ((∀ b, (R.put z v5 ⟨gb, n + x, cap⟩).hot b → R.hot b ∨ wr.heap.size ≤ b) ∧ ∀ b, (R.put z v5 ⟨gb, n + x, cap⟩).foot b → R.foot b ∨ wr.heap.size ≤ b ∨ b = gb) ∧ But R.hot wr w') (hn : n ≤ 140737488351232) (hx : x ≤ 1000) (hz : z = 9) :
    BPost base w R n f (.returned (.slice (some ⟨gb, 0, none⟩) n (n + x))) w' := by
  obtain ⟨hrm, ⟨hhot, hfoot⟩, hbut⟩ := hput
  have hsep := hF.sep gb rfl
  have hsw := hBm.size
  refine ⟨_, _, _, rfl, ⟨⟨fun _ => ⟨gb, 0, rfl, ⟨hgB, fun h => ?_⟩, Nat.lt_of_lt_of_le hgl hbut.size, fun j hj => ?_⟩, by omega, by omega, by unfold maxLen; omega, hfit, fun h => by cases h⟩, hrm, rfl, fun b hb => ?_, fun b hb => ?_, fun q hq => ?_, ?_, fun q _ => ?_⟩⟩
  · rcases hhot gb h with h1 | h1
    · exact hsep (.inl h1)
    · omega
  · have h := hF.row.cells (g := gb) rfl j (.int .u8 (withLotsB n f j)) (by simp [List.getElem?_range (show j < n + x by omega)])
    rw [Go.WideShapes.add_plain] at h
    rw [withLotsB, if_pos hj] at h
    exact (World.cell?_of_block (a := ⟨gb, 0 + j, none⟩) (hbut.block gb hgl fun e => hsep (.inl e))).trans h
  · rcases hhot b hb with h1 | h1
    · exact .inl h1
    · exact .inr (by omega)
  · rcases hfoot b hb with h1 | h1 | h1
    · exact .inl h1
    · exact .inr (by omega)
    · exact .inr (by omega)
  · have hqz : ¬ q = z := by omega
    simp only [RS.put, if_neg hqz]
    exact ⟨trivial, trivial⟩
  · exact hBm.trans hbut
  · by_cases hqz : q = z
    · simp only [RS.put, if_pos hqz, List.length_append, List.length_singleton]; omega
    · simp only [RS.put, if_neg hqz]; omega

set_option maxHeartbeats 2000000 in
theorem byts_of (p : Option Addr) (n c : Nat) (f : Nat → Int) (base : Nat) (w : World) (R : RS) (S : Nat → Prop) (hR : Rm base w R) (hbase : base ≤ w.heap.size) (hin : Byts w S p n c f) (hn : n ≤ 140737488351232) (hcnt : ∀ q, q < 10 → (R.L q).length + 1 ≤ 100000) :
    Calls Try.prog 30 #[.pointer (some ⟨R.rb, 0, none⟩), .slice p n c] w fun e w' => BPost base w R n f e w' := by
  obtain ⟨i0, Kd⟩ := kindB
  obtain ⟨i1, Kd1⟩ := kindBs
  have HI : Hid (Byts w S p n c f) := hin
  have HR : Hid (Rm base w R) := hR
  clear hin hR
  have hF0 : FillB w.heap.size (w.alloc (.cells #[] 5)) R (.slice (some ⟨w.heap.size, 0, none⟩) 0 0) 0 f := by
    refine ⟨?_, fun b hb hf => ?_⟩
    · have h := World.ownsRow_made (base := w.heap.size) (e := 5) (size := 1) w #[] 0 (Nat.le_refl _) (Nat.zero_le _) (by simp)
      simpa using h
    · simp only [Value.ownBlock, Option.some.injEq] at hb
      have := HR.out.footlt hf
      omega
  have hrow := hF0.row
  go_enter Try.func30, Try.ntmps30
  go_wp2_with (at_builtin; refine wpList_appS rfl (.tmp 8) (.tmp 9) 62 5 i0 _ 1 1 Kd rfl w.heap.size (.slice (some ⟨w.heap.size, 0, none⟩) 0 0) 0 _ rfl hrow p n c ((List.range n).map fun j => .int .u8 (f j)) rfl ?_ (oneCell_byts _ _) ?_ ?_ ?_ ?_)
  · exact (HI.out.kept (by simp) fun b _ hb => Below.heap_alloc _ _ _ hb).src
  · omega
  · omega
  · simp
  intro v1 w1 ho1 hg1 hn1
  have hb0 : Below w.heap.size w (w.alloc (.cells #[] 5)) := (Below.refl _ _).alloc (Nat.le_refl _) _
  have hR0 : Rm base (w.alloc (.cells #[] 5)) R := HR.out.below hb0
  have hF1 : FillB w.heap.size w1 R v1 (n + 0) (withLotsB n f) := by
    refine hF0.next hR0 hn1 ?_
    have e : ((List.range (n + 0)).map fun j => Value.int .u8 (withLotsB n f j)) = ((List.range n).map fun j => Value.int .u8 (f j)) := map_sameB fun j hj => by rw [withLotsB, if_pos (show j < n from hj)]
    rw [e]
    simpa using ho1
  have hR1 : Rm base w1 R := hF0.room hR0 hg1
  have hB1 : But R.hot w w1 := (But.ofBelow hb0).grown hg1 fun b hb hl => by simp only [Value.ownBlock, Option.some.injEq] at hb; omega
  clear hF0 hrow ho1 hg1 hn1 hb0 hR0
  go_wp2_with fail
  go_loopw [5, 6] (fun v x wr => ∃ m : Nat, m ≤ 600 ∧ x = .int .i64 m ∧ FillB w.heap.size wr R v (n + m) (withLotsB n f) ∧ Rm base wr R ∧ But R.hot w wr) (fun _ x _ => 600 - (intOf x).toNat)
  case atStart => exact ⟨0, by omega, rfl, hF1, hR1, hB1⟩
  case round =>
    obtain ⟨m, hm, rfl, hFm, hRm, hBm⟩ := hrel
    clear hF1 hR1 hB1
    by_cases hlt4 : m < 600
    · have hlt4' : (m : Int) < 600 := by omega
      have HLo := lot_any m (by omega)
      have HX : Hid (FillB w.heap.size wr R u5 (n + m) (withLotsB n f) ∧ Rm base wr R ∧ But R.hot w wr) := ⟨hFm, hRm, hBm⟩
      have hlo : -7702 ≤ lotN m ∧ lotN m ≤ -7701 := by unfold lotN; split <;> omega
      obtain ⟨l1, l2⟩ := hlo
      have hRow := hFm.row
      have hsw := hBm.size
      clear hFm hRm hBm
      go_wp2_with (go_at_call 53; refine (HLo _).mono ?_)
      rintro e w2 ⟨rfl, hw2⟩
      subst w2
      go_wp2_with (at_builtin; refine wpList_app rfl (.tmp 15) (.tmp 19) 62 5 i0 _ 1 1 Kd rfl w.heap.size u5 (n + m) _ rfl (hRow.alloc _) ⟨wr.heap.size, 0, none⟩ 1 1 [.int .u8 (lotN m % 256)] rfl rfl (cell_one_new _ _ _) ?_ ?_ ?_ ?_ ?_)
      · intro u hu
        simp only [List.mem_singleton] at hu
        subst hu
        rfl
      · omega
      · omega
      · simp; omega
      intro v5 w5 ho5 hg5 hn5
      obtain ⟨hF4, hR4, hB4⟩ := HX.out
      have ha : Below wr.heap.size wr (wr.alloc (.cells #[.int .u8 (lotN m % 256)] 5)) := (Below.refl _ _).alloc (Nat.le_refl _) _
      have HF5 : Hid (FillB w.heap.size w5 R v5 (n + (m + 1)) (withLotsB n f)) := by
        refine (hF4.below ha).next (hR4.below ha) hn5 ?_
        rw [← Nat.add_assoc, map_pushB]
        have e : withLotsB n f (n + m) = lotN m % 256 := by rw [withLotsB, if_neg (by omega), Nat.add_sub_cancel_left]
        rw [e]
        exact ho5
      have HR5 : Hid (Rm base w5 R) := (hF4.below ha).room (hR4.below ha) hg5
      have HB5 : Hid (But R.hot w w5) := (hB4.alloc _).grown hg5 fun b hb hl => absurd (hF4.row.lt b hb).1 (by omega)
      clear hF4 hR4 hB4 ha ho5 hg5 hn5 hRow HX
      go_wp2
      go_roundw
      case rel => exact ⟨m + 1, by omega, by go_num, HF5.out, HR5.out, HB5.out⟩
      case measure => simp [intOf]; omega
    · obtain rfl : m = 600 := by omega
      obtain ⟨gb, cap, hv, hgB, hgl, hcap⟩ : ∃ gb cap, u5 = .slice (some ⟨gb, 0, none⟩) (n + 600) cap ∧ w.heap.size ≤ gb ∧ gb < wr.heap.size ∧ n + 600 ≤ cap := by
        have hlt := hFm.row.lt
        obtain ⟨_, ⟨hv, h0⟩ | ⟨gb, cap, cur, hv, hbg, hh, hnc, _⟩⟩ := id hFm.row
        · omega
        · exact ⟨gb, cap, hv, hbg, (hlt gb (by rw [hv]; rfl)).2, hnc⟩
      subst hv
      have hrow3 := hRm.row 9 (by omega)
      have hb3 := hRm.box.cell 9
      simp at hb3
      have hl3 : (R.L 9).length < 100000 := by have := hcnt 9 (by omega); omega
      have HX : Hid (FillB w.heap.size wr R (.slice (some ⟨gb, 0, none⟩) (n + 600) cap) (n + 600) (withLotsB n f) ∧ Rm base wr R ∧ But R.hot w wr) := ⟨hFm, hRm, hBm⟩
      have hbw : base ≤ wr.heap.size := Nat.le_trans hbase hBm.size
      clear hFm hRm hBm
      go_wp2_with (at_builtin; refine wpList_app rfl (.tmp 25) (.tmp 27) 35 62 i1 _ 1 24 Kd1 rfl base (R.F 9) (R.L 9).length ((R.L 9).map Made.val) rfl (hrow3.alloc _) ⟨wr.heap.size, 0, none⟩ 1 1 [.slice (some ⟨gb, 0, none⟩) (n + 600) cap] rfl rfl (cell_one_new _ _ _) ?_ ?_ ?_ ?_ ?_)
      · intro u hu
        simp only [List.mem_singleton] at hu
        subst hu
        rfl
      · omega
      · omega
      · simp; omega
      intro v5 w5 ho5 hg5 hn5
      obtain ⟨hFm, hRm, hBm⟩ := HX.out
      have hmk : Marks wr 9 ⟨gb, n + 600, cap⟩ := by
        refine ⟨⟨by show 600 ≤ n + 600; omega, by show n + 600 ≤ 281474976710656; omega⟩, fun q hq r hr => ?_⟩
        have hq4 : q < 600 := hq
        have hr4 : r < 1 := hr
        obtain rfl : r = 0 := by omega
        have hc := hFm.row.cells (g := gb) rfl (n + q) (.int .u8 (withLotsB n f (n + q))) (by simp [List.getElem?_range (show n + q < n + 600 by omega)])
        rw [Go.WideShapes.add_plain] at hc
        rw [withLotsB, if_neg (by omega), Nat.add_sub_cancel_left] at hc
        show wr.cell? ⟨gb, (n + 600 - 600 + q) * 1 + 0, none⟩ = some (.int .u8 (lotN q % 256))
        rw [← hc]
        congr 2
        all_goals omega
      have hsep := hFm.sep gb rfl
      have hput := hRm.put (i := 9) (v := v5) (x := ⟨gb, n + 600, cap⟩) (by omega) hmk hgl (fun h => hsep (.inl h)) ((Below.refl _ _).alloc (Nat.le_refl _) _) ho5 hg5 hn5 hl3
      obtain ⟨q5, e5, hv5⟩ := ownsRow_slice ho5
      obtain ⟨x3, y3, z3⟩ : w5.cell? ⟨R.rb, 9, none⟩ = some (R.F 9) ∧ w5.frozen? ⟨R.rb, 9, none⟩ = false ∧ R.rb < w5.heap.size := by
        have h := (hRm.box.below ((Below.refl _ _).alloc (Nat.le_refl _) (.cells #[.slice (some ⟨gb, 0, none⟩) (n + 600) cap] 62)))
        have h2 := h.kept (hg5.block _ h.lt fun e => hRm.off 9 (by omega) e.symm)
        exact ⟨by have := h2.cell 9; simpa using this, h2.frozen 9, h2.lt⟩
      subst hv5
      have HP : Hid (BPost base w R n f (.returned (.slice (some ⟨gb, 0, none⟩) n (n + 600))) (w5.setCell ⟨R.rb, 9, none⟩ (.slice q5 ((R.L 9).length + 1) e5))) :=
        byts_post hgB hgl hFm hBm HI.out.fit hput hn (by omega) rfl
      clear hFm hRm hBm hmk hput ho5 hg5 hn5 hrow3 HX
      go_wp2
      go_ret
      exact HP.out
end Go.Proofs.Ytehpdhhlggegdaa
