import Derived.Test.YtikfpoabaaiegaaPack17
import Derived.Test.YtikfpoabaaiegaaPack44
import Derived.Test.YtikfpoabaaiegaaWtC
namespace Go.Proofs.Ytikfpoabaaiegaa
open Go.RowKit
set_option maxRecDepth 8000

def elRowI : El (Int × Nat) where
  ty := 110
  size := 2
  cells := fun x => [.int .i64 x.1, .int .u32 (x.2 : Int)]
  len := fun _ => rfl
  one := fun x u hu => by
    simp only [List.mem_cons, List.not_mem_nil, or_false] at hu
    rcases hu with rfl | rfl <;> rfl
  In := fun _ _ x => (-9223372036854775808 ≤ x.1 ∧ x.1 ≤ 9223372036854775807) ∧ x.2 < 4294967296
  kept := fun h _ _ => h
  mono := fun h _ => h
structure MI where
  id : Int
  sum : Nat
  rows : LT (Int × Nat)
def MI.val (m : MI) : Value := .agg #[.int .i64 m.id, .int .u32 (m.sum : Int), .slice m.rows.p m.rows.n m.rows.c]
structure GI where
  id : Int
  task : Int
  base : Int
  sum : Nat
  st : ST
  dnum : Int
  set : LT VT
  gone : LT ByteArray
  logs : LT (LT RT)
  pend : LT RT
def GI.val (g : GI) : Value := .agg #[.int .i64 g.id, .int .i64 g.task, .int .i64 g.base, .int .u32 (g.sum : Int), .int .i64 g.st.num, .slice g.st.p g.st.n g.st.c, .int .i64 g.dnum, .slice g.set.p g.set.n g.set.c, .slice g.gone.p g.gone.n g.gone.c, .slice g.logs.p g.logs.n g.logs.c, .slice g.pend.p g.pend.n g.pend.c]
def other (g : GI) : Bool := if g.base = 0 then ((g.sum : Int) != 0) || ((g.dnum != 0) || (decide (0 < g.set.n) || decide (0 < g.gone.n))) else (g.st.num != 0) || decide (0 < g.st.n)
end Go.Proofs.Ytikfpoabaaiegaa

namespace Go.Proofs.Ytikfpoabaaiegaa
open Go.RowKit
set_option maxRecDepth 8000

structure GI.In (w : World) (S : Nat → Prop) (g : GI) : Prop where
  sum : g.sum < 4294967296
  id0 : -9223372036854775808 ≤ g.id
  id1 : g.id ≤ 9223372036854775807
  task0 : -9223372036854775808 ≤ g.task
  task1 : g.task ≤ 9223372036854775807
  base0 : -9223372036854775808 ≤ g.base
  base1 : g.base ≤ 9223372036854775807
  st : ST.In2 w S g.st
  dnum0 : -9223372036854775808 ≤ g.dnum
  dnum1 : g.dnum ≤ 9223372036854775807
  set : LT.In elCell w S g.set
  gone : LT.In elStr w S g.gone
  logs : LT.In elRecs w S g.logs
  pend : LT.In elRec w S g.pend
theorem GI.In.below {w w' : World} {S : Nat → Prop} {g : GI} (h : GI.In w S g) (hb : Below w.heap.size w w') : GI.In w' S g :=
  ⟨h.sum, h.id0, h.id1, h.task0, h.task1, h.base0, h.base1, h.st.below hb, h.dnum0, h.dnum1, h.set.below hb, h.gone.below hb, h.logs.below hb, h.pend.below hb⟩
end Go.Proofs.Ytikfpoabaaiegaa

namespace Go.Proofs.Ytikfpoabaaiegaa
open Go.RowKit
set_option maxRecDepth 8000
theorem z_ne {i k : Int} (h : i ≠ k) : (i != k) = true := by rw [bne_iff_ne]; exact h
def RowsAlike (l u : LT (Int × Nat)) : Prop := u.n = l.n ∧ ∀ j, j < l.n → u.item j = l.item j
structure MnAlike (m k : MI) : Prop where
  id : k.id = m.id
  sum : k.sum = m.sum
  rows : RowsAlike m.rows k.rows
set_option maxHeartbeats 8000000 in
theorem yManifest (m k : MI) (w : World) (S R : Nat → Prop) (hm : LT.In elRowI w S m.rows) (hk : LT.In elRowI w R k.rows) :
    Calls Try.prog 37 #[m.val, k.val] w fun e w' => YesNo (MnAlike m k) e w w' := by
  have hb0 : Below w.heap.size w ((w.alloc (.cells #[.int .i64 m.id, .int .u32 (m.sum : Int), .slice m.rows.p m.rows.n m.rows.c] 41)).alloc (.cells #[.int .i64 k.id, .int .u32 (k.sum : Int), .slice k.rows.p k.rows.n k.rows.c] 41)) := ((Below.refl _ _).alloc (Nat.le_refl _) _).alloc (by simp) _
  have hx0 := (Box.new w #[.int .i64 m.id, .int .u32 (m.sum : Int), .slice m.rows.p m.rows.n m.rows.c] 41).below ((Below.refl _ _).alloc (Nat.le_refl _) (.cells #[.int .i64 k.id, .int .u32 (k.sum : Int), .slice k.rows.p k.rows.n k.rows.c] 41))
  have hy0 := Box.new (w.alloc (.cells #[.int .i64 m.id, .int .u32 (m.sum : Int), .slice m.rows.p m.rows.n m.rows.c] 41)) #[.int .i64 k.id, .int .u32 (k.sum : Int), .slice k.rows.p k.rows.n k.rows.c] 41
  rw [show (w.alloc (.cells #[.int .i64 m.id, .int .u32 (m.sum : Int), .slice m.rows.p m.rows.n m.rows.c] 41)).heap.size = w.heap.size + 1 by simp] at hy0
  have HX0 := hid hx0
  have HY0 := hid hy0
  have HB0 := hid hb0
  have hnn := hm.nn
  have H := hid hm
  have H' := hid hk
  unfold MI.val
  clear hx0 hy0 hb0 hm hk
  obtain ⟨id, sum, ⟨p, n, c, f⟩⟩ := m
  obtain ⟨id2, sum2, ⟨p2, n2, c2, f2⟩⟩ := k
  simp only at hnn H H' HX0 HY0 HB0 ⊢
  by_cases h1 : id = id2
  case neg =>
    have hne := z_ne h1
    have HN : Hid (¬ MnAlike ⟨id, sum, ⟨p, n, c, f⟩⟩ ⟨id2, sum2, ⟨p2, n2, c2, f2⟩⟩) := fun h => h1 h.id.symm
    clear h1
    go_enter Try.func37, Try.ntmps37
    go_wp2
    go_ret
    exact yn_no HN.out HB0.out
  subst h1
  by_cases h2 : sum = sum2
  case neg =>
    have hne := int_ne h2
    have HN : Hid (¬ MnAlike ⟨id, sum, ⟨p, n, c, f⟩⟩ ⟨id, sum2, ⟨p2, n2, c2, f2⟩⟩) := fun h => h2 h.sum.symm
    clear h2
    go_enter Try.func37, Try.ntmps37
    go_wp2
    go_ret
    exact yn_no HN.out HB0.out
  subst h2
  by_cases h3 : n = n2
  case neg =>
    have hne := int_ne h3
    have HN : Hid (¬ MnAlike ⟨id, sum, ⟨p, n, c, f⟩⟩ ⟨id, sum, ⟨p2, n2, c2, f2⟩⟩) := fun h => h3 h.rows.1.symm
    clear h3
    go_enter Try.func37, Try.ntmps37
    go_wp2
    go_ret
    exact yn_no HN.out HB0.out
  subst h3
  go_enter Try.func37, Try.ntmps37
  go_wp2_with fail
  go_loopw [5] (fun x wr => ∃ j : Nat, j ≤ n ∧ x = .int .i64 j ∧ (∀ q, q < j → f2 q = f q) ∧ Box wr w.heap.size #[.int .i64 id, .int .u32 (sum : Int), .slice p n c] 41 ∧ Box wr (w.heap.size + 1) #[.int .i64 id, .int .u32 (sum : Int), .slice p2 n c2] 41 ∧ Below w.heap.size w wr) (fun x _ => n - (intOf x).toNat)
  case atStart => exact ⟨0, Nat.zero_le _, rfl, fun q hq => absurd hq (by omega), HX0.out, HY0.out, HB0.out⟩
  case round =>
    obtain ⟨j, hj, rfl, hA, hB1, hB2, hbel⟩ := hrel
    have HA := hid hA
    have HB := hid hbel
    have HX1 := hid hB1
    have HY1 := hid hB2
    have x2 := hB1.cell 2
    have y2 := hB2.cell 2
    simp only [List.getElem?_toArray, List.getElem?_cons_zero, List.getElem?_cons_succ] at x2 y2
    clear hA hB1 hB2 HX0 HY0
    by_cases hlt : j < n
    · have hlt' : (j : Int) < (n : Int) := by omega
      obtain ⟨b1, o1, hp, _, hl1, ha⟩ := H.out.at_ (show 0 < n by omega)
      obtain ⟨b2, o2, hp', _, hl2, ha'⟩ := H'.out.at_ (show 0 < n by omega)
      simp only at hp hp'
      subst hp hp'
      have q0 := ha j hlt 0 _ rfl
      have q1 := ha j hlt 1 _ rfl
      have r0 := ha' j hlt 0 _ rfl
      have r1 := ha' j hlt 1 _ rfl
      simp only [elRowI, Nat.add_zero] at q0 q1 r0 r1
      have a0 := (World.cell?_of_block (a := ⟨b1, o1 + j * 2, none⟩) (hbel.block b1 hl1)).trans q0
      have a1 := (World.cell?_of_block (a := ⟨b1, o1 + j * 2 + 1, none⟩) (hbel.block b1 hl1)).trans q1
      have e0 := (World.cell?_of_block (a := ⟨b2, o2 + j * 2, none⟩) (hbel.block b2 hl2)).trans r0
      have e1 := (World.cell?_of_block (a := ⟨b2, o2 + j * 2 + 1, none⟩) (hbel.block b2 hl2)).trans r1
      clear ha ha' hbel q0 q1 r0 r1
      obtain ⟨s, t, hf⟩ : ∃ s t, f j = (s, t) := ⟨_, _, rfl⟩
      obtain ⟨s2, t2, hf2⟩ : ∃ s t, f2 j = (s, t) := ⟨_, _, rfl⟩
      rw [hf] at a0 a1
      rw [hf2] at e0 e1
      simp only at a0 a1 e0 e1
      by_cases hs : s = s2
      case neg =>
        have hne := z_ne hs
        have HN : Hid (¬ MnAlike ⟨id, sum, ⟨some ⟨b1, o1, none⟩, n, c, f⟩⟩ ⟨id, sum, ⟨some ⟨b2, o2, none⟩, n, c2, f2⟩⟩) := fun h => hs (by have := h.rows.2 j hlt; simp only [hf, hf2, Prod.mk.injEq] at this; exact this.1.symm)
        clear hs hf hf2
        go_wp2_with fail
        go_region
        all_goals
          go_wp2
          go_ret
          exact yn_no HN.out HB.out.drew
      subst hs
      by_cases ht : t = t2
      case neg =>
        have hne := int_ne ht
        have HN : Hid (¬ MnAlike ⟨id, sum, ⟨some ⟨b1, o1, none⟩, n, c, f⟩⟩ ⟨id, sum, ⟨some ⟨b2, o2, none⟩, n, c2, f2⟩⟩) := fun h => ht (by have := h.rows.2 j hlt; simp only [hf, hf2, Prod.mk.injEq] at this; exact this.2.symm)
        clear ht hf hf2
        go_wp2_with fail
        go_region
        all_goals
          go_wp2
          go_ret
          exact yn_no HN.out HB.out.drew
      subst ht
      have HA2 : Hid (∀ q, q < j + 1 → f2 q = f q) := fun q hq => by
        by_cases h : q < j
        · exact HA.out q h
        · obtain rfl : q = j := by omega
          rw [hf, hf2]
      have HXd := hid (And.intro (HX1.out.below (Below.refl _ _).drew) (HY1.out.below (Below.refl _ _).drew))
      clear hf hf2
      go_wp2_with fail
      go_region
      all_goals
        go_wp2
        go_roundw
        case rel => exact ⟨j + 1, by omega, by go_num, HA2.out, HXd.out.1, HXd.out.2, HB.out.drew⟩
        case measure => simp [intOf]; omega
    · obtain rfl : j = n := by omega
      have hlt' : ¬ (j : Int) < (j : Int) := by omega
      clear hbel
      go_wp2
      go_ret
      exact yn_yes ⟨rfl, rfl, rfl, HA.out⟩ HB.out
end Go.Proofs.Ytikfpoabaaiegaa
