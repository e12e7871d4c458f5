import Derived.Test.YtikfpoabaaiegaaPack18
namespace Go.Proofs.Ytikfpoabaaiegaa
open Go.RowKit
set_option maxRecDepth 8000

/-- a row of a manifest in a list, its size any -/
def elRowI : El (Int × Nat) where
  ty := 110
  size := 2
  cells := fun x => [.int .i64 x.1, .int .u32 (x.2 : Int)]
  len := fun _ => rfl
  one := fun x u hu => by
    simp only [List.mem_cons, List.not_mem_nil, or_false] at hu
    rcases hu with rfl | rfl <;> rfl
  In := fun _ _ x => (-9223372036854775808 ≤ x.1 ∧ x.1 ≤ 9223372036854775807) ∧ x.2 < 4294967296
  kept := fun h _ _ => h
  mono := fun h _ => h
structure MI where
  id : Int
  sum : Nat
  rows : LT (Int × Nat)
def MI.val (m : MI) : Value := .agg #[.int .i64 m.id, .int .u32 (m.sum : Int), .slice m.rows.p m.rows.n m.rows.c]
def chkSize (x : Int × Nat) : Nat := if 0 ≤ x.1 ∧ x.1 ≤ 65536 then 0 else 43
def chkMan (m : MI) : Nat := if 0 ≤ m.id ∧ m.id ≤ 9999 then (if 12 < m.rows.n then 43 else firstC (fun j => chkSize (m.rows.item j)) m.rows.n) else 43
set_option maxHeartbeats 4000000 in
theorem ckMan_gen (m : MI) (w : World) (S : Nat → Prop) (hin : LT.In elRowI w S m.rows) : Calls Try.prog 59 #[m.val] w fun x w' => errPost (chkMan m) w x w' := by
  have E : Hid (chkMan m = if 0 ≤ m.id ∧ m.id ≤ 9999 then (if 12 < m.rows.n then 43 else firstC (fun j => chkSize (m.rows.item j)) m.rows.n) else 43) := rfl
  have hbx := Box.new w #[.int .i64 m.id, .int .u32 (m.sum : Int), .slice m.rows.p m.rows.n m.rows.c] 41
  have c0 := hbx.cell 0
  have c1 := hbx.cell 1
  have c2 := hbx.cell 2
  simp only [List.getElem?_toArray, List.getElem?_cons_zero, List.getElem?_cons_succ] at c0 c1 c2
  have ha : Below w.heap.size w (w.alloc (.cells #[.int .i64 m.id, .int .u32 (m.sum : Int), .slice m.rows.p m.rows.n m.rows.c] 41)) := (Below.refl _ _).alloc (Nat.le_refl _) _
  have HIn := hid hin
  have HA := hid ha
  generalize chkMan m = res at *
  unfold MI.val
  obtain ⟨id, sum, ⟨p, n, c, item⟩⟩ := m
  simp only at *
  clear hin ha hbx
  by_cases hid_ : 0 ≤ id ∧ id ≤ 9999
  case neg =>
    have HW := fun W => within_no id 9999 hid_ W
    have HR : Hid (res = 43) := by have e := E.out; rw [if_neg hid_] at e; exact e
    clear hid_ E
    go_enter Try.func59, Try.ntmps59
    go_wp2_with fail
    refine (HW _).mono ?_
    rintro x w1 ⟨rfl, hw1⟩
    subst w1
    go_wp2
    go_ret
    exact ⟨by rw [HR.out]; rfl, HA.out⟩
  have HW := fun W => within_yes id 9999 hid_.1 hid_.2 W
  have E2 : Hid (res = if 12 < n then 43 else firstC (fun j => chkSize (item j)) n) := by have e := E.out; rw [if_pos hid_] at e; exact e
  clear hid_ E
  by_cases hn : 12 < n
  case pos =>
    have hn' : (12 : Int) < (n : Int) := by omega
    have HR : Hid (res = 43) := by have e := E2.out; rw [if_pos hn] at e; exact e
    clear E2
    go_enter Try.func59, Try.ntmps59
    go_wp2_with fail
    refine (HW _).mono ?_
    rintro x w1 ⟨rfl, hw1⟩
    subst w1
    go_wp2
    go_ret
    exact ⟨by rw [HR.out]; rfl, HA.out⟩
  have hn' : ¬ (12 : Int) < (n : Int) := by omega
  have E3 : Hid (res = firstC (fun j => chkSize (item j)) n) := by have e := E2.out; rw [if_neg hn] at e; exact e
  clear E2
  go_enter Try.func59, Try.ntmps59
  go_wp2_with fail
  refine (HW _).mono ?_
  rintro x w1 ⟨rfl, hw1⟩
  subst w1
  go_wp2_with fail
  go_loopw [18] (fun x wr => ∃ j : Nat, j ≤ n ∧ x = .int .i64 j ∧ Below w.heap.size w wr ∧ firstC (fun j => chkSize (item j)) j = 0) (fun x _ => n - (intOf x).toNat)
  case atStart => exact ⟨0, Nat.zero_le _, rfl, HA.out, rfl⟩
  case round =>
    obtain ⟨j, hj, rfl, hbel, hz⟩ := hrel
    have HZ := hid hz
    clear hz
    by_cases hlt : j < n
    · have hlt' : (j : Int) < (n : Int) := by omega
      obtain ⟨bb, o, hp, hSb, hbl, hat⟩ := HIn.out.at_ (show 0 < n by omega)
      simp only at hp
      subst hp
      have hca : ∀ r u, (elRowI.cells (item j))[r]? = some u → wr.cell? ⟨bb, o + j * 2 + r, none⟩ = some u := fun r u hu => (World.cell?_of_block (a := ⟨bb, o + j * 2 + r, none⟩) (hbel.block bb hbl)).trans (hat j hlt r u hu)
      have d0 := hca 0 _ rfl
      have d1 := hca 1 _ rfl
      simp only [Nat.add_zero] at d0
      have ha : Below wr.heap.size wr (wr.alloc (.cells #[.int .i64 (item j).1, .int .u32 ((item j).2 : Int)] 110)) := (Below.refl _ _).alloc (Nat.le_refl _) _
      have HB := hid (hbel.trans (ha.mono hbel.size))
      clear hat hca ha hbel
      by_cases hs : 0 ≤ (item j).1 ∧ (item j).1 ≤ 65536
      · have HW2 := fun W => within_yes (item j).1 65536 hs.1 hs.2 W
        have HZ2 : Hid (firstC (fun j => chkSize (item j)) (j + 1) = 0) := by
          show firstC (fun j => chkSize (item j)) (j + 1) = 0
          rw [firstC_succ HZ.out]
          exact if_pos hs
        clear hs
        go_wp2_with fail
        refine (HW2 _).mono ?_
        rintro e w2 ⟨rfl, hw2⟩
        subst w2
        clear HW2 d0 d1
        go_wp2
        go_roundw
        case rel => exact ⟨j + 1, by omega, by go_num, HB.out, HZ2.out⟩
        case measure => simp [intOf]; omega
      · have HW2 := fun W => within_no (item j).1 65536 hs W
        have HR : Hid (res = 43) := by
          show res = 43
          have e : chkSize (item j) = 43 := if_neg hs
          rw [E3.out, firstC_hit HZ.out hlt (by show chkSize (item j) ≠ 0; rw [e]; decide), e]
        clear hs
        go_wp2_with fail
        refine (HW2 _).mono ?_
        rintro e w2 ⟨rfl, hw2⟩
        subst w2
        clear HW2 d0 d1
        go_wp2
        go_ret
        exact ⟨by rw [HR.out]; rfl, HB.out⟩
    · obtain rfl : j = n := by omega
      have hlt' : ¬ (j : Int) < (j : Int) := by omega
      have HF := hid hbel
      clear hbel
      go_wp2
      go_ret
      exact ⟨by rw [E3.out, HZ.out]; rfl, HF.out⟩
/-- a segment, its numbers any -/
structure GI where
  id : Int
  task : Int
  base : Int
  sum : Nat
  st : ST
  dnum : Int
  set : LT VT
  gone : LT ByteArray
  logs : LT (LT RT)
  pend : LT RT
def GI.val (g : GI) : Value := .agg #[.int .i64 g.id, .int .i64 g.task, .int .i64 g.base, .int .u32 (g.sum : Int), .int .i64 g.st.num, .slice g.st.p g.st.n g.st.c, .int .i64 g.dnum, .slice g.set.p g.set.n g.set.c, .slice g.gone.p g.gone.n g.gone.c, .slice g.logs.p g.logs.n g.logs.c, .slice g.pend.p g.pend.n g.pend.c]
/-- does it hold what its bytes would leave out? -/
def other (g : GI) : Bool := if g.base = 0 then ((g.sum : Int) != 0) || ((g.dnum != 0) || (decide (0 < g.set.n) || decide (0 < g.gone.n))) else (g.st.num != 0) || decide (0 < g.st.n)
set_option maxHeartbeats 4000000 in
theorem hoks_gen (g : GI) (w : World) : Calls Try.prog 103 #[g.val] w fun x w' => x = .returned (.bool (other g)) ∧ Below w.heap.size w w' := by
  obtain ⟨res, hres⟩ : ∃ res, res = other g := ⟨_, rfl⟩
  rw [← hres]
  have E := hid hres
  have hbx := Box.new w #[.int .i64 g.id, .int .i64 g.task, .int .i64 g.base, .int .u32 (g.sum : Int), .int .i64 g.st.num, .slice g.st.p g.st.n g.st.c, .int .i64 g.dnum, .slice g.set.p g.set.n g.set.c, .slice g.gone.p g.gone.n g.gone.c, .slice g.logs.p g.logs.n g.logs.c, .slice g.pend.p g.pend.n g.pend.c] 38
  have c0 := hbx.cell 0
  have c1 := hbx.cell 1
  have c2 := hbx.cell 2
  have c3 := hbx.cell 3
  have c4 := hbx.cell 4
  have c5 := hbx.cell 5
  have c6 := hbx.cell 6
  have c7 := hbx.cell 7
  have c8 := hbx.cell 8
  have c9 := hbx.cell 9
  have c10 := hbx.cell 10
  simp only [List.getElem?_toArray, List.getElem?_cons_zero, List.getElem?_cons_succ] at c0 c1 c2 c3 c4 c5 c6 c7 c8 c9 c10
  unfold GI.val
  clear hbx hres
  cases hz : (g.base == 0)
  · have hb : g.base ≠ 0 := by simpa using hz
    cases h1 : (g.st.num != 0)
    · by_cases h2 : 0 < g.st.n
      · have h2' : (0 : Int) < (g.st.n : Int) := by omega
        have HR : Hid (res = true) := by have e := E.out; unfold other at e; simp only [hb, h1, h2, if_false, Bool.or_true, decide_true] at e; exact e
        clear E hb
        go_enter Try.func103, Try.ntmps103
        go_wp2
        go_ret
        exact ⟨by rw [HR.out]; rfl, (Below.refl _ _).alloc (Nat.le_refl _) _⟩
      · have h2' : ¬ (0 : Int) < (g.st.n : Int) := by omega
        have HR : Hid (res = false) := by have e := E.out; unfold other at e; simp only [hb, h1, h2, if_false, Bool.or_false, decide_false] at e; exact e
        clear E hb
        go_enter Try.func103, Try.ntmps103
        go_wp2
        go_ret
        exact ⟨by rw [HR.out]; rfl, (Below.refl _ _).alloc (Nat.le_refl _) _⟩
    · skip
      have HR : Hid (res = true) := by have e := E.out; unfold other at e; simp only [hb, h1, if_false, Bool.true_or] at e; exact e
      clear E hb
      go_enter Try.func103, Try.ntmps103
      go_wp2
      go_ret
      exact ⟨by rw [HR.out]; rfl, (Below.refl _ _).alloc (Nat.le_refl _) _⟩
  · have hb : g.base = 0 := by simpa using hz
    cases h1 : ((g.sum : Int) != 0)
    · cases h2 : (g.dnum != 0)
      · by_cases h3 : 0 < g.set.n
        · have h3' : (0 : Int) < (g.set.n : Int) := by omega
          have HR : Hid (res = true) := by have e := E.out; unfold other at e; simp only [hb, h1, h2, h3, if_true, Bool.true_or, Bool.or_true, decide_true] at e; exact e
          clear E hb
          go_enter Try.func103, Try.ntmps103
          go_wp2
          go_ret
          exact ⟨by rw [HR.out]; rfl, (Below.refl _ _).alloc (Nat.le_refl _) _⟩
        · have h3' : ¬ (0 : Int) < (g.set.n : Int) := by omega
          by_cases h4 : 0 < g.gone.n
          · have h4' : (0 : Int) < (g.gone.n : Int) := by omega
            have HR : Hid (res = true) := by have e := E.out; unfold other at e; simp only [hb, h1, h2, h3, h4, if_true, Bool.or_true, decide_true, decide_false] at e; exact e
            clear E hb
            go_enter Try.func103, Try.ntmps103
            go_wp2
            go_ret
            exact ⟨by rw [HR.out]; rfl, (Below.refl _ _).alloc (Nat.le_refl _) _⟩
          · have h4' : ¬ (0 : Int) < (g.gone.n : Int) := by omega
            have HR : Hid (res = false) := by have e := E.out; unfold other at e; simp only [hb, h1, h2, h3, h4, if_true, Bool.or_false, decide_false] at e; exact e
            clear E hb
            go_enter Try.func103, Try.ntmps103
            go_wp2
            go_ret
            exact ⟨by rw [HR.out]; rfl, (Below.refl _ _).alloc (Nat.le_refl _) _⟩
      · skip
        have HR : Hid (res = true) := by have e := E.out; unfold other at e; simp only [hb, h1, h2, if_true, Bool.true_or, Bool.or_true] at e; exact e
        clear E hb
        go_enter Try.func103, Try.ntmps103
        go_wp2
        go_ret
        exact ⟨by rw [HR.out]; rfl, (Below.refl _ _).alloc (Nat.le_refl _) _⟩
    · skip
      have HR : Hid (res = true) := by have e := E.out; unfold other at e; simp only [hb, h1, if_true, Bool.true_or] at e; exact e
      clear E hb
      go_enter Try.func103, Try.ntmps103
      go_wp2
      go_ret
      exact ⟨by rw [HR.out]; rfl, (Below.refl _ _).alloc (Nat.le_refl _) _⟩
end Go.Proofs.Ytikfpoabaaiegaa

namespace Go.Proofs.Ytikfpoabaaiegaa
open Go.RowKit
set_option maxRecDepth 8000

structure GI.In (w : World) (S : Nat → Prop) (g : GI) : Prop where
  sum : g.sum < 4294967296
  id0 : -9223372036854775808 ≤ g.id
  id1 : g.id ≤ 9223372036854775807
  task0 : -9223372036854775808 ≤ g.task
  task1 : g.task ≤ 9223372036854775807
  base0 : -9223372036854775808 ≤ g.base
  base1 : g.base ≤ 9223372036854775807
  st : ST.In2 w S g.st
  dnum0 : -9223372036854775808 ≤ g.dnum
  dnum1 : g.dnum ≤ 9223372036854775807
  set : LT.In elCell w S g.set
  gone : LT.In elStr w S g.gone
  logs : LT.In elRecs w S g.logs
  pend : LT.In elRec w S g.pend
theorem GI.In.below {w w' : World} {S : Nat → Prop} {g : GI} (h : GI.In w S g) (hb : Below w.heap.size w w') : GI.In w' S g :=
  ⟨h.sum, h.id0, h.id1, h.task0, h.task1, h.base0, h.base1, h.st.below hb, h.dnum0, h.dnum1, h.set.below hb, h.gone.below hb, h.logs.below hb, h.pend.below hb⟩
theorem ST.ofLTi {w : World} {S : Nat → Prop} {l : LT VT} {n : Int} (h : LT.In elCell w S l) (h0 : -9223372036854775808 ≤ n) (h1 : n ≤ 9223372036854775807) : ST.In w S ⟨n, l.p, l.n, l.c, l.item⟩ := by
  have h2 := ST.ofLT (n := 0) h (by decide)
  exact ⟨h2.at_, h2.each, h2.nc, h2.nn, h2.cc, h0, h1⟩
def GI.dst (g : GI) : ST := ⟨g.dnum, g.set.p, g.set.n, g.set.c, g.set.item⟩
def chkKept (g : GI) : Nat := if g.base = 0 then chkState g.st else if chkState g.dst = 0 then chkGone g.gone else chkState g.dst
set_option maxHeartbeats 4000000 in
theorem ckKept_gen (g : GI) (w : World) (S : Nat → Prop) (hin : GI.In w S g) (hS : ∀ b, S b → b < w.heap.size) : Calls Try.prog 104 #[g.val] w fun x w' => errPost (chkKept g) w x w' := by
  have E : Hid (chkKept g = if g.base = 0 then chkState g.st else if chkState g.dst = 0 then chkGone g.gone else chkState g.dst) := rfl
  generalize chkKept g = res at *
  have hbx := Box.new w #[.int .i64 g.id, .int .i64 g.task, .int .i64 g.base, .int .u32 (g.sum : Int), .int .i64 g.st.num, .slice g.st.p g.st.n g.st.c, .int .i64 g.dnum, .slice g.set.p g.set.n g.set.c, .slice g.gone.p g.gone.n g.gone.c, .slice g.logs.p g.logs.n g.logs.c, .slice g.pend.p g.pend.n g.pend.c] 38
  have c0 := hbx.cell 0
  have c1 := hbx.cell 1
  have c2 := hbx.cell 2
  have c3 := hbx.cell 3
  have c4 := hbx.cell 4
  have c5 := hbx.cell 5
  have c6 := hbx.cell 6
  have c7 := hbx.cell 7
  have c8 := hbx.cell 8
  have c9 := hbx.cell 9
  have c10 := hbx.cell 10
  simp only [List.getElem?_toArray, List.getElem?_cons_zero, List.getElem?_cons_succ] at c0 c1 c2 c3 c4 c5 c6 c7 c8 c9 c10
  have ha : Below w.heap.size w (w.alloc (.cells #[.int .i64 g.id, .int .i64 g.task, .int .i64 g.base, .int .u32 (g.sum : Int), .int .i64 g.st.num, .slice g.st.p g.st.n g.st.c, .int .i64 g.dnum, .slice g.set.p g.set.n g.set.c, .slice g.gone.p g.gone.n g.gone.c, .slice g.logs.p g.logs.n g.logs.c, .slice g.pend.p g.pend.n g.pend.c] 38)) := (Below.refl _ _).alloc (Nat.le_refl _) _
  have hin2 := hin.below ha
  have hS2 : ∀ b, S b → b < (w.alloc (.cells #[.int .i64 g.id, .int .i64 g.task, .int .i64 g.base, .int .u32 (g.sum : Int), .int .i64 g.st.num, .slice g.st.p g.st.n g.st.c, .int .i64 g.dnum, .slice g.set.p g.set.n g.set.c, .slice g.gone.p g.gone.n g.gone.c, .slice g.logs.p g.logs.n g.logs.c, .slice g.pend.p g.pend.n g.pend.c] 38)).heap.size := fun b hb => by have := hS b hb; have := ha.size; omega
  have HA := hid ha
  have HBx := hid hbx
  unfold GI.val
  cases hz : (g.base == 0)
  · have hne : g.base ≠ 0 := by simpa using hz
    have E2 : Hid (res = if chkState g.dst = 0 then chkGone g.gone else chkState g.dst) := by have e := E.out; rw [if_neg hne] at e; exact e
    have HC := hid (checkState_any g.dst _ S (ST.ofLTi hin2.set hin2.dnum0 hin2.dnum1) hS2)
    have HG : Hid (∀ W, Below (w.alloc (.cells #[.int .i64 g.id, .int .i64 g.task, .int .i64 g.base, .int .u32 (g.sum : Int), .int .i64 g.st.num, .slice g.st.p g.st.n g.st.c, .int .i64 g.dnum, .slice g.set.p g.set.n g.set.c, .slice g.gone.p g.gone.n g.gone.c, .slice g.logs.p g.logs.n g.logs.c, .slice g.pend.p g.pend.n g.pend.c] 38)).heap.size (w.alloc (.cells #[.int .i64 g.id, .int .i64 g.task, .int .i64 g.base, .int .u32 (g.sum : Int), .int .i64 g.st.num, .slice g.st.p g.st.n g.st.c, .int .i64 g.dnum, .slice g.set.p g.set.n g.set.c, .slice g.gone.p g.gone.n g.gone.c, .slice g.logs.p g.logs.n g.logs.c, .slice g.pend.p g.pend.n g.pend.c] 38)) W → Calls Try.prog 134 #[.slice g.gone.p g.gone.n g.gone.c] W fun x w' => errPost (chkGone g.gone) W x w') := fun W hW => ckGone_gen g.gone W S (hin2.gone.below hW)
    obtain ⟨k, hk⟩ : ∃ k, k = chkState g.dst := ⟨_, rfl⟩
    obtain ⟨q, hq⟩ : ∃ q, q = chkGone g.gone := ⟨_, rfl⟩
    rw [← hk] at HC E2
    rw [← hq] at HG E2
    unfold ST.val at HC
    simp only [GI.dst] at HC
    clear hin hin2 hS hS2 ha hbx hne E hk hq
    cases hk0 : ((k : Int) != 0)
    · have HR : Hid (res = q) := by have e := E2.out; rw [if_pos (by simpa using hk0)] at e; exact e
      clear E2
      go_enter Try.func104, Try.ntmps104
      go_wp2_with fail
      refine HC.out.mono ?_
      rintro x w1 ⟨rfl, hb1⟩
      have HB1 := hid hb1
      have hbx1 := HBx.out.below hb1
      have y8 := hbx1.cell 8
      simp only [List.getElem?_toArray, List.getElem?_cons_zero, List.getElem?_cons_succ] at y8
      clear hb1 HC hbx1
      go_wp2_with fail
      refine (HG.out _ HB1.out).mono ?_
      rintro x w2 ⟨rfl, hb2⟩
      have HB2 := hid ((HA.out.trans (HB1.out.mono HA.out.size)).trans (hb2.mono (by have := HB1.out.size; have := HA.out.size; omega)))
      clear hb2 HG
      go_wp2
      go_ret
      exact ⟨by rw [HR.out]; rfl, HB2.out⟩
    · have HR : Hid (res = k) := by have e := E2.out; rw [if_neg (by simpa using hk0)] at e; exact e
      clear E2
      go_enter Try.func104, Try.ntmps104
      go_wp2_with fail
      refine HC.out.mono ?_
      rintro x w1 ⟨rfl, hb1⟩
      have HB1 := hid (HA.out.trans (hb1.mono HA.out.size))
      clear hb1 HC
      go_wp2
      go_ret
      exact ⟨by rw [HR.out]; rfl, HB1.out⟩
  · have heq : g.base = 0 := by simpa using hz
    have HR : Hid (res = chkState g.st) := by have e := E.out; rw [if_pos heq] at e; exact e
    have HC := hid (checkState_any g.st _ S hin2.st.i hS2)
    unfold ST.val at HC
    clear hin hin2 hS hS2 ha hbx heq E
    go_enter Try.func104, Try.ntmps104
    go_wp2_with fail
    refine HC.out.mono ?_
    rintro x w1 ⟨rfl, hb1⟩
    have HB1 := hid (HA.out.trans (hb1.mono HA.out.size))
    clear hb1 HC
    go_wp2
    go_ret
    exact ⟨by rw [HR.out]; rfl, HB1.out⟩
def bnd (g : GI) : Prop := (0 ≤ g.id ∧ g.id ≤ 9999) ∧ (0 ≤ g.task ∧ g.task ≤ 11) ∧ (0 ≤ g.base ∧ g.base ≤ 9999)
instance (g : GI) : Decidable (bnd g) := by unfold bnd; exact inferInstance
def chkLogs (g : GI) : Nat := if 4 < g.logs.n then 43 else firstC (fun j => chkRecs (g.logs.item j)) g.logs.n
def chkSeg (g : GI) : Nat := if bnd g then (if other g = true then 41 else if chkKept g = 0 then (if chkLogs g = 0 then chkRecs g.pend else chkLogs g) else chkKept g) else 43
set_option maxHeartbeats 4000000 in
theorem ckSeg_bound (g : GI) (w : World) (h : ¬ bnd g) : Calls Try.prog 56 #[g.val] w fun x w' => errPost 43 w x w' := by
  have hbx := Box.new w #[.int .i64 g.id, .int .i64 g.task, .int .i64 g.base, .int .u32 (g.sum : Int), .int .i64 g.st.num, .slice g.st.p g.st.n g.st.c, .int .i64 g.dnum, .slice g.set.p g.set.n g.set.c, .slice g.gone.p g.gone.n g.gone.c, .slice g.logs.p g.logs.n g.logs.c, .slice g.pend.p g.pend.n g.pend.c] 38
  have c0 := hbx.cell 0
  have c1 := hbx.cell 1
  have c2 := hbx.cell 2
  have c3 := hbx.cell 3
  have c4 := hbx.cell 4
  have c5 := hbx.cell 5
  have c6 := hbx.cell 6
  have c7 := hbx.cell 7
  have c8 := hbx.cell 8
  have c9 := hbx.cell 9
  have c10 := hbx.cell 10
  simp only [List.getElem?_toArray, List.getElem?_cons_zero, List.getElem?_cons_succ] at c0 c1 c2 c3 c4 c5 c6 c7 c8 c9 c10
  have ha : Below w.heap.size w (w.alloc (.cells #[.int .i64 g.id, .int .i64 g.task, .int .i64 g.base, .int .u32 (g.sum : Int), .int .i64 g.st.num, .slice g.st.p g.st.n g.st.c, .int .i64 g.dnum, .slice g.set.p g.set.n g.set.c, .slice g.gone.p g.gone.n g.gone.c, .slice g.logs.p g.logs.n g.logs.c, .slice g.pend.p g.pend.n g.pend.c] 38)) := (Below.refl _ _).alloc (Nat.le_refl _) _
  have HA := hid ha
  unfold GI.val
  clear hbx ha
  by_cases h1 : 0 ≤ g.id ∧ g.id ≤ 9999
  · by_cases h2 : 0 ≤ g.task ∧ g.task ≤ 11
    · have h3 : ¬ (0 ≤ g.base ∧ g.base ≤ 9999) := fun h3 => h ⟨h1, h2, h3⟩
      have HW1 := fun W => within_yes g.id 9999 h1.1 h1.2 W
      have HW2 := fun W => within_yes g.task 11 h2.1 h2.2 W
      have HW3 := fun W => within_no g.base 9999 h3 W
      clear h1 h2 h3 h
      go_enter Try.func56, Try.ntmps56
      go_wp2_with fail
      refine (HW1 _).mono ?_
      rintro x w1 ⟨rfl, hw1⟩
      subst w1
      go_wp2_with fail
      refine (HW2 _).mono ?_
      rintro x w1 ⟨rfl, hw1⟩
      subst w1
      go_wp2_with fail
      refine (HW3 _).mono ?_
      rintro x w1 ⟨rfl, hw1⟩
      subst w1
      go_wp2
      go_ret
      exact ⟨rfl, HA.out⟩
    · have HW1 := fun W => within_yes g.id 9999 h1.1 h1.2 W
      have HW2 := fun W => within_no g.task 11 h2 W
      clear h1 h2 h
      go_enter Try.func56, Try.ntmps56
      go_wp2_with fail
      refine (HW1 _).mono ?_
      rintro x w1 ⟨rfl, hw1⟩
      subst w1
      go_wp2_with fail
      refine (HW2 _).mono ?_
      rintro x w1 ⟨rfl, hw1⟩
      subst w1
      go_wp2
      go_ret
      exact ⟨rfl, HA.out⟩
  · have HW1 := fun W => within_no g.id 9999 h1 W
    clear h1 h
    go_enter Try.func56, Try.ntmps56
    go_wp2_with fail
    refine (HW1 _).mono ?_
    rintro x w1 ⟨rfl, hw1⟩
    subst w1
    go_wp2
    go_ret
    exact ⟨rfl, HA.out⟩
end Go.Proofs.Ytikfpoabaaiegaa

namespace Go.Proofs.Ytikfpoabaaiegaa
open Go.RowKit
set_option maxRecDepth 8000

set_option maxHeartbeats 4000000 in
theorem ckSeg_other (g : GI) (w : World) (hb : bnd g) (ho : other g = true) : Calls Try.prog 56 #[g.val] w fun x w' => errPost 41 w x w' := by
  have hbx := Box.new w #[.int .i64 g.id, .int .i64 g.task, .int .i64 g.base, .int .u32 (g.sum : Int), .int .i64 g.st.num, .slice g.st.p g.st.n g.st.c, .int .i64 g.dnum, .slice g.set.p g.set.n g.set.c, .slice g.gone.p g.gone.n g.gone.c, .slice g.logs.p g.logs.n g.logs.c, .slice g.pend.p g.pend.n g.pend.c] 38
  have c0 := hbx.cell 0
  have c1 := hbx.cell 1
  have c2 := hbx.cell 2
  have c3 := hbx.cell 3
  have c4 := hbx.cell 4
  have c5 := hbx.cell 5
  have c6 := hbx.cell 6
  have c7 := hbx.cell 7
  have c8 := hbx.cell 8
  have c9 := hbx.cell 9
  have c10 := hbx.cell 10
  simp only [List.getElem?_toArray, List.getElem?_cons_zero, List.getElem?_cons_succ] at c0 c1 c2 c3 c4 c5 c6 c7 c8 c9 c10
  have ha : Below w.heap.size w (w.alloc (.cells #[.int .i64 g.id, .int .i64 g.task, .int .i64 g.base, .int .u32 (g.sum : Int), .int .i64 g.st.num, .slice g.st.p g.st.n g.st.c, .int .i64 g.dnum, .slice g.set.p g.set.n g.set.c, .slice g.gone.p g.gone.n g.gone.c, .slice g.logs.p g.logs.n g.logs.c, .slice g.pend.p g.pend.n g.pend.c] 38)) := (Below.refl _ _).alloc (Nat.le_refl _) _
  have HA := hid ha
  have HBx := hid hbx
  have HW1 := fun W => within_yes g.id 9999 hb.1.1 hb.1.2 W
  have HW2 := fun W => within_yes g.task 11 hb.2.1.1 hb.2.1.2 W
  have HW3 := fun W => within_yes g.base 9999 hb.2.2.1 hb.2.2.2 W
  have HO := hid (hoks_gen g (w.alloc (.cells #[.int .i64 g.id, .int .i64 g.task, .int .i64 g.base, .int .u32 (g.sum : Int), .int .i64 g.st.num, .slice g.st.p g.st.n g.st.c, .int .i64 g.dnum, .slice g.set.p g.set.n g.set.c, .slice g.gone.p g.gone.n g.gone.c, .slice g.logs.p g.logs.n g.logs.c, .slice g.pend.p g.pend.n g.pend.c] 38)))
  unfold GI.val at HO ⊢
  clear hb
  rw [ho] at HO
  clear hbx ha
  go_enter Try.func56, Try.ntmps56
  go_wp2_with fail
  refine (HW1 _).mono ?_
  rintro x w1 ⟨rfl, hw1⟩
  subst w1
  go_wp2_with fail
  refine (HW2 _).mono ?_
  rintro x w1 ⟨rfl, hw1⟩
  subst w1
  go_wp2_with fail
  refine (HW3 _).mono ?_
  rintro x w1 ⟨rfl, hw1⟩
  subst w1
  go_wp2_with fail
  refine HO.out.mono ?_
  rintro x w1 ⟨rfl, hb1⟩
  have HB1 := hid (HA.out.trans (hb1.mono HA.out.size))
  clear hb1
  go_wp2
  go_ret
  exact ⟨rfl, HB1.out⟩
set_option maxHeartbeats 4000000 in
theorem ckSeg_kept (g : GI) (w : World) (S : Nat → Prop) (hin : GI.In w S g) (hS : ∀ b, S b → b < w.heap.size) (hb : bnd g) (ho : other g = false) (hkz : ((chkKept g : Int) != 0) = true) : Calls Try.prog 56 #[g.val] w fun x w' => errPost (chkKept g) w x w' := by
  obtain ⟨res, hres⟩ : ∃ res, res = chkKept g := ⟨_, rfl⟩
  rw [← hres]
  have HR0 := hid hres
  clear hres
  have hbx := Box.new w #[.int .i64 g.id, .int .i64 g.task, .int .i64 g.base, .int .u32 (g.sum : Int), .int .i64 g.st.num, .slice g.st.p g.st.n g.st.c, .int .i64 g.dnum, .slice g.set.p g.set.n g.set.c, .slice g.gone.p g.gone.n g.gone.c, .slice g.logs.p g.logs.n g.logs.c, .slice g.pend.p g.pend.n g.pend.c] 38
  have c0 := hbx.cell 0
  have c1 := hbx.cell 1
  have c2 := hbx.cell 2
  have c3 := hbx.cell 3
  have c4 := hbx.cell 4
  have c5 := hbx.cell 5
  have c6 := hbx.cell 6
  have c7 := hbx.cell 7
  have c8 := hbx.cell 8
  have c9 := hbx.cell 9
  have c10 := hbx.cell 10
  simp only [List.getElem?_toArray, List.getElem?_cons_zero, List.getElem?_cons_succ] at c0 c1 c2 c3 c4 c5 c6 c7 c8 c9 c10
  have ha : Below w.heap.size w (w.alloc (.cells #[.int .i64 g.id, .int .i64 g.task, .int .i64 g.base, .int .u32 (g.sum : Int), .int .i64 g.st.num, .slice g.st.p g.st.n g.st.c, .int .i64 g.dnum, .slice g.set.p g.set.n g.set.c, .slice g.gone.p g.gone.n g.gone.c, .slice g.logs.p g.logs.n g.logs.c, .slice g.pend.p g.pend.n g.pend.c] 38)) := (Below.refl _ _).alloc (Nat.le_refl _) _
  have HA := hid ha
  have HBx := hid hbx
  have HW1 := fun W => within_yes g.id 9999 hb.1.1 hb.1.2 W
  have HW2 := fun W => within_yes g.task 11 hb.2.1.1 hb.2.1.2 W
  have HW3 := fun W => within_yes g.base 9999 hb.2.2.1 hb.2.2.2 W
  have HO := hid (hoks_gen g (w.alloc (.cells #[.int .i64 g.id, .int .i64 g.task, .int .i64 g.base, .int .u32 (g.sum : Int), .int .i64 g.st.num, .slice g.st.p g.st.n g.st.c, .int .i64 g.dnum, .slice g.set.p g.set.n g.set.c, .slice g.gone.p g.gone.n g.gone.c, .slice g.logs.p g.logs.n g.logs.c, .slice g.pend.p g.pend.n g.pend.c] 38)))
  unfold GI.val at HO ⊢
  clear hb
  rw [ho] at HO
  have HIn := hid (hin.below ha)
  have HS2 : Hid (∀ b, S b → b < (w.alloc (.cells #[.int .i64 g.id, .int .i64 g.task, .int .i64 g.base, .int .u32 (g.sum : Int), .int .i64 g.st.num, .slice g.st.p g.st.n g.st.c, .int .i64 g.dnum, .slice g.set.p g.set.n g.set.c, .slice g.gone.p g.gone.n g.gone.c, .slice g.logs.p g.logs.n g.logs.c, .slice g.pend.p g.pend.n g.pend.c] 38)).heap.size) := fun b hb => by have := hS b hb; have := ha.size; omega
  clear hin hS ha hbx
  go_enter Try.func56, Try.ntmps56
  go_wp2_with fail
  refine (HW1 _).mono ?_
  rintro x w1 ⟨rfl, hw1⟩
  subst w1
  go_wp2_with fail
  refine (HW2 _).mono ?_
  rintro x w1 ⟨rfl, hw1⟩
  subst w1
  go_wp2_with fail
  refine (HW3 _).mono ?_
  rintro x w1 ⟨rfl, hw1⟩
  subst w1
  go_wp2_with fail
  refine HO.out.mono ?_
  rintro x w1 ⟨rfl, hb1⟩
  have hx1 := HBx.out.below hb1
  have y0 := hx1.cell 0
  have y1 := hx1.cell 1
  have y2 := hx1.cell 2
  have y3 := hx1.cell 3
  have y4 := hx1.cell 4
  have y5 := hx1.cell 5
  have y6 := hx1.cell 6
  have y7 := hx1.cell 7
  have y8 := hx1.cell 8
  have y9 := hx1.cell 9
  have y10 := hx1.cell 10
  simp only [List.getElem?_toArray, List.getElem?_cons_zero, List.getElem?_cons_succ] at y0 y1 y2 y3 y4 y5 y6 y7 y8 y9 y10
  have hi1 := HIn.out.below hb1
  have HK := hid (ckKept_gen g w1 S hi1 (fun b hb => by have := HS2.out b hb; have := hb1.size; omega))
  have HX1 := hid hx1
  have HI1 := hid hi1
  have HB1 := hid hb1
  obtain ⟨k, hk⟩ : ∃ k, k = chkKept g := ⟨_, rfl⟩
  rw [← hk] at HK hkz
  have HKk : Hid (res = k) := by show res = k; rw [HR0.out, hk]
  unfold GI.val at HK
  clear hx1 hi1 hb1 HO HW1 HW2 HW3 c0 c1 c2 c3 c4 c5 c6 c7 c8 c9 c10 hk
  go_wp2_with fail
  refine HK.out.mono ?_
  rintro x w2 ⟨rfl, hb2⟩
  have HB2 := hid ((HA.out.trans (HB1.out.mono HA.out.size)).trans (hb2.mono (by have := HB1.out.size; have := HA.out.size; omega)))
  clear hb2 HK
  go_wp2
  go_ret
  exact ⟨by rw [HKk.out]; rfl, HB2.out⟩
set_option maxHeartbeats 8000000 in
theorem ckSeg_rest (g : GI) (w : World) (S : Nat → Prop) (hin : GI.In w S g) (hS : ∀ b, S b → b < w.heap.size) (hb : bnd g) (ho : other g = false) (hkz : ((chkKept g : Int) != 0) = false) : Calls Try.prog 56 #[g.val] w fun x w' => errPost (if chkLogs g = 0 then chkRecs g.pend else chkLogs g) w x w' := by
  have E : Hid (chkLogs g = if 4 < g.logs.n then 43 else firstC (fun j => chkRecs (g.logs.item j)) g.logs.n) := rfl
  generalize chkLogs g = lg at *
  obtain ⟨res, hres⟩ : ∃ res, res = (if lg = 0 then chkRecs g.pend else lg) := ⟨_, rfl⟩
  rw [← hres]
  have HRes := hid hres
  clear hres
  have hbx := Box.new w #[.int .i64 g.id, .int .i64 g.task, .int .i64 g.base, .int .u32 (g.sum : Int), .int .i64 g.st.num, .slice g.st.p g.st.n g.st.c, .int .i64 g.dnum, .slice g.set.p g.set.n g.set.c, .slice g.gone.p g.gone.n g.gone.c, .slice g.logs.p g.logs.n g.logs.c, .slice g.pend.p g.pend.n g.pend.c] 38
  have c0 := hbx.cell 0
  have c1 := hbx.cell 1
  have c2 := hbx.cell 2
  have c3 := hbx.cell 3
  have c4 := hbx.cell 4
  have c5 := hbx.cell 5
  have c6 := hbx.cell 6
  have c7 := hbx.cell 7
  have c8 := hbx.cell 8
  have c9 := hbx.cell 9
  have c10 := hbx.cell 10
  simp only [List.getElem?_toArray, List.getElem?_cons_zero, List.getElem?_cons_succ] at c0 c1 c2 c3 c4 c5 c6 c7 c8 c9 c10
  have ha : Below w.heap.size w (w.alloc (.cells #[.int .i64 g.id, .int .i64 g.task, .int .i64 g.base, .int .u32 (g.sum : Int), .int .i64 g.st.num, .slice g.st.p g.st.n g.st.c, .int .i64 g.dnum, .slice g.set.p g.set.n g.set.c, .slice g.gone.p g.gone.n g.gone.c, .slice g.logs.p g.logs.n g.logs.c, .slice g.pend.p g.pend.n g.pend.c] 38)) := (Below.refl _ _).alloc (Nat.le_refl _) _
  have HA := hid ha
  have HBx := hid hbx
  have HW1 := fun W => within_yes g.id 9999 hb.1.1 hb.1.2 W
  have HW2 := fun W => within_yes g.task 11 hb.2.1.1 hb.2.1.2 W
  have HW3 := fun W => within_yes g.base 9999 hb.2.2.1 hb.2.2.2 W
  have HO := hid (hoks_gen g (w.alloc (.cells #[.int .i64 g.id, .int .i64 g.task, .int .i64 g.base, .int .u32 (g.sum : Int), .int .i64 g.st.num, .slice g.st.p g.st.n g.st.c, .int .i64 g.dnum, .slice g.set.p g.set.n g.set.c, .slice g.gone.p g.gone.n g.gone.c, .slice g.logs.p g.logs.n g.logs.c, .slice g.pend.p g.pend.n g.pend.c] 38)))
  unfold GI.val at HO ⊢
  clear hb
  rw [ho] at HO
  have HIn := hid (hin.below ha)
  have HS2 : Hid (∀ b, S b → b < (w.alloc (.cells #[.int .i64 g.id, .int .i64 g.task, .int .i64 g.base, .int .u32 (g.sum : Int), .int .i64 g.st.num, .slice g.st.p g.st.n g.st.c, .int .i64 g.dnum, .slice g.set.p g.set.n g.set.c, .slice g.gone.p g.gone.n g.gone.c, .slice g.logs.p g.logs.n g.logs.c, .slice g.pend.p g.pend.n g.pend.c] 38)).heap.size) := fun b hb => by have := hS b hb; have := ha.size; omega
  clear hin hS ha hbx
  go_enter Try.func56, Try.ntmps56
  go_wp2_with fail
  refine (HW1 _).mono ?_
  rintro x w1 ⟨rfl, hw1⟩
  subst w1
  go_wp2_with fail
  refine (HW2 _).mono ?_
  rintro x w1 ⟨rfl, hw1⟩
  subst w1
  go_wp2_with fail
  refine (HW3 _).mono ?_
  rintro x w1 ⟨rfl, hw1⟩
  subst w1
  go_wp2_with fail
  refine HO.out.mono ?_
  rintro x w1 ⟨rfl, hb1⟩
  have hx1 := HBx.out.below hb1
  have y0 := hx1.cell 0
  have y1 := hx1.cell 1
  have y2 := hx1.cell 2
  have y3 := hx1.cell 3
  have y4 := hx1.cell 4
  have y5 := hx1.cell 5
  have y6 := hx1.cell 6
  have y7 := hx1.cell 7
  have y8 := hx1.cell 8
  have y9 := hx1.cell 9
  have y10 := hx1.cell 10
  simp only [List.getElem?_toArray, List.getElem?_cons_zero, List.getElem?_cons_succ] at y0 y1 y2 y3 y4 y5 y6 y7 y8 y9 y10
  have hi1 := HIn.out.below hb1
  have HK := hid (ckKept_gen g w1 S hi1 (fun b hb => by have := HS2.out b hb; have := hb1.size; omega))
  have HX1 := hid hx1
  have HI1 := hid hi1
  have HB1 := hid hb1
  obtain ⟨k, hk⟩ : ∃ k, k = chkKept g := ⟨_, rfl⟩
  rw [← hk] at HK hkz
  unfold GI.val at HK
  clear hx1 hi1 hb1 HO HW1 HW2 HW3 c0 c1 c2 c3 c4 c5 c6 c7 c8 c9 c10 hk
  go_wp2_with fail
  refine HK.out.mono ?_
  rintro x w2 ⟨rfl, hb2⟩
  have hx2 := HX1.out.below hb2
  have z0 := hx2.cell 0
  have z1 := hx2.cell 1
  have z2 := hx2.cell 2
  have z3 := hx2.cell 3
  have z4 := hx2.cell 4
  have z5 := hx2.cell 5
  have z6 := hx2.cell 6
  have z7 := hx2.cell 7
  have z8 := hx2.cell 8
  have z9 := hx2.cell 9
  have z10 := hx2.cell 10
  simp only [List.getElem?_toArray, List.getElem?_cons_zero, List.getElem?_cons_succ] at z0 z1 z2 z3 z4 z5 z6 z7 z8 z9 z10
  have HI2 := hid (HI1.out.below hb2)
  have HX2 := hid hx2
  have hsA := HA.out.size
  have hs1 := HB1.out.size
  have HB2 := hid ((HA.out.trans (HB1.out.mono hsA)).trans (hb2.mono (by omega)))
  have HS3 : Hid (∀ b, S b → b < w2.heap.size) := fun b hb => by have := HS2.out b hb; have := hb2.size; omega
  clear hx2 hb2 HK HX1 HI1 HB1 y0 y1 y2 y3 y4 y5 y6 y7 y8 y9 y10 hsA hs1 HS2 HIn HA HBx
  by_cases hln : 4 < g.logs.n
  · have hln' : (4 : Int) < (g.logs.n : Int) := by omega
    have HR : Hid (res = 43) := by
      have e := E.out
      have r := HRes.out
      rw [if_pos hln] at e
      rw [e, if_neg (by decide)] at r
      exact r
    clear E HRes
    go_wp2
    go_ret
    exact ⟨by rw [HR.out]; rfl, HB2.out⟩
  have hln' : ¬ (4 : Int) < (g.logs.n : Int) := by omega
  have E2 : Hid (lg = firstC (fun j => chkRecs (g.logs.item j)) g.logs.n) := by have e := E.out; rw [if_neg hln] at e; exact e
  clear E
  go_wp2_with fail
  go_loopw [37] (fun x wr => ∃ j : Nat, j ≤ g.logs.n ∧ x = .int .i64 j ∧ Below w2.heap.size w2 wr ∧ firstC (fun j => chkRecs (g.logs.item j)) j = 0) (fun x _ => g.logs.n - (intOf x).toNat)
  case atStart => exact ⟨0, Nat.zero_le _, rfl, Below.refl _ _, rfl⟩
  case round =>
    obtain ⟨j, hj, rfl, hbel, hzz⟩ := hrel
    have HZ := hid hzz
    clear hzz
    have hsr := hbel.size
    by_cases hlt : j < g.logs.n
    · have hlt' : (j : Int) < (g.logs.n : Int) := by omega
      obtain ⟨bb, o, hp, hSb, hbl, hat⟩ := HI2.out.logs.at_ (by omega)
      have d0 : wr.cell? ⟨bb, o + j, none⟩ = some (.slice (g.logs.item j).p (g.logs.item j).n (g.logs.item j).c) := by
        have h1 := hat j hlt 0 _ rfl
        simp [elRecs] at h1
        exact (World.cell?_of_block (a := ⟨bb, o + j, none⟩) (hbel.block bb hbl)).trans h1
      rw [hp]
      have hi : LT.In elRec w2 S (g.logs.item j) := HI2.out.logs.each j hlt
      have HC := hid (ckRecords_gen (g.logs.item j) wr S (hi.below hbel) (fun b hb => by have := HS3.out b hb; omega))
      have HB := hid hbel
      have HP := hid hp
      obtain ⟨u, hu⟩ : ∃ u, u = chkRecs (g.logs.item j) := ⟨_, rfl⟩
      rw [← hu] at HC
      have HU := hid hu
      clear hat hi hbel hp hu
      go_wp2_with fail
      refine HC.out.mono ?_
      rintro e w3 ⟨rfl, hb3⟩
      have HB3 := hid (HB.out.trans (hb3.mono HB.out.size))
      clear hb3 HC d0
      cases hu0 : ((u : Int) != 0)
      · have HZ2 : Hid (firstC (fun j => chkRecs (g.logs.item j)) (j + 1) = 0) := by
          show firstC (fun j => chkRecs (g.logs.item j)) (j + 1) = 0
          rw [firstC_succ HZ.out, ← HU.out]
          simpa using hu0
        go_wp2
        go_roundw
        case rel => exact ⟨j + 1, by omega, by go_num, HB3.out, HZ2.out⟩
        case measure => simp [intOf]; omega
      · have HR : Hid (res = u) := by
          have hne : u ≠ 0 := by simpa using hu0
          show res = u
          have e : lg = u := by rw [E2.out, firstC_hit HZ.out hlt (by show chkRecs (g.logs.item j) ≠ 0; rw [← HU.out]; exact hne), HU.out]
          rw [HRes.out, e, if_neg hne]
        have HB4 := hid (HB2.out.trans (HB3.out.mono HB2.out.size))
        go_wp2
        go_ret
        exact ⟨by rw [HR.out]; rfl, HB4.out⟩
    · obtain rfl : j = g.logs.n := by omega
      have hlt' : ¬ (g.logs.n : Int) < (g.logs.n : Int) := by omega
      have hx3 := HX2.out.below hbel
      have q10 := hx3.cell 10
      simp only [List.getElem?_toArray, List.getElem?_cons_zero, List.getElem?_cons_succ] at q10
      have HC := hid (ckRecords_gen g.pend wr S (HI2.out.pend.below hbel) (fun b hb => by have := HS3.out b hb; omega))
      have HB := hid (HB2.out.trans (hbel.mono HB2.out.size))
      have HR : Hid (res = chkRecs g.pend) := by
        show res = chkRecs g.pend
        rw [HRes.out, if_pos (by rw [E2.out, HZ.out])]
      clear hbel hx3
      go_wp2_with fail
      refine HC.out.mono ?_
      rintro e w3 ⟨rfl, hb3⟩
      have HB3 := hid (HB.out.trans (hb3.mono HB.out.size))
      clear hb3 HC
      go_wp2
      go_ret
      exact ⟨by rw [HR.out]; rfl, HB3.out⟩
theorem ckSeg_gen (g : GI) (w : World) (S : Nat → Prop) (hin : GI.In w S g) (hS : ∀ b, S b → b < w.heap.size) : Calls Try.prog 56 #[g.val] w fun x w' => errPost (chkSeg g) w x w' := by
  unfold chkSeg
  by_cases hb : bnd g
  · rw [if_pos hb]
    cases ho : other g
    · rw [if_neg (by decide)]
      by_cases hk : chkKept g = 0
      · rw [if_pos hk]
        exact ckSeg_rest g w S hin hS hb ho (by rw [hk]; rfl)
      · rw [if_neg hk]
        exact ckSeg_kept g w S hin hS hb ho (by simpa using hk)
    · rw [if_pos rfl]
      exact ckSeg_other g w hb ho
  · rw [if_neg hb]
    exact ckSeg_bound g w hb
end Go.Proofs.Ytikfpoabaaiegaa

namespace Go.Proofs.Ytikfpoabaaiegaa
open Go.RowKit
set_option maxRecDepth 8000
/-- bytes, and no error -/
def PutP (B : List Int) (w : World) (x : Ending) (w' : World) : Prop := ∃ v, x = .returned (.tuple #[v, .int .i64 0]) ∧ OwnBy w.heap.size w' v B ∧ Below w.heap.size w w'
theorem OwnBy.mono {base base' : Nat} {w : World} {v : Value} {zs : List Int} (h : OwnBy base w v zs) (hb : base' ≤ base) : OwnBy base' w v zs := ownsRow_mono h hb
theorem vr_of {r : RT} (h : chkRec r = 0) : VR r := by
  unfold chkRec at h
  split at h
  · cases h
  rename_i h1
  split at h
  · rename_i h2; exact absurd h h2
  split at h
  · cases h
  rename_i h3
  refine ⟨by omega, by omega, fun j hj => ?_⟩
  have key : ∀ m, firstC (fun j => chkLoop (r.loop j)) m = 0 → ∀ i, i < m → chkLoop (r.loop i) = 0 := by
    intro m
    induction m with
    | zero => intro _ i hi; omega
    | succ m ih =>
      intro hm i hi
      have hm' : (if firstC (fun j => chkLoop (r.loop j)) m = 0 then chkLoop (r.loop m) else firstC (fun j => chkLoop (r.loop j)) m) = 0 := hm
      split at hm'
      · rename_i h5
        by_cases him : i = m
        · subst him; exact hm'
        · exact ih h5 i (by omega)
      · rename_i h5; exact absurd hm' h5
  have h4 := key _ h j hj
  unfold chkLoop at h4
  split at h4
  · cases h4
  · omega
set_option maxHeartbeats 4000000 in
theorem writtenRec (r : RT) (w : World) (S : Nat → Prop) (hin : RT.In w S r) (hr : chkRec r = 0) (hS : ∀ b, S b → b < w.heap.size) : Calls Try.prog 64 #[r.val, .int .i64 0, .func (.func 66) #[] #[]] w fun x w' => PutP (recB r) w x w' := by
  have ha : Below w.heap.size w (w.alloc (.cells #[.string r.key, .int .i64 r.v.kind, .int .i64 r.v.int, .string r.v.text, .slice r.v.p r.v.n r.v.c, .slice r.p r.n r.c] 27)) := (Below.refl _ _).alloc (Nat.le_refl _) _
  have HC : Hid (∀ W, Below (w.alloc (.cells #[.string r.key, .int .i64 r.v.kind, .int .i64 r.v.int, .string r.v.text, .slice r.v.p r.v.n r.v.c, .slice r.p r.n r.c] 27)).heap.size (w.alloc (.cells #[.string r.key, .int .i64 r.v.kind, .int .i64 r.v.int, .string r.v.text, .slice r.v.p r.v.n r.v.c, .slice r.p r.n r.c] 27)) W → Calls Try.prog 66 #[.slice none 0 0, r.val] W fun e w' => EPost (w.alloc (.cells #[.string r.key, .int .i64 r.v.kind, .int .i64 r.v.int, .string r.v.text, .slice r.v.p r.v.n r.v.c, .slice r.p r.n r.c] 27)).heap.size W ([] ++ recB r) e w') := fun W hW => wpRec_any r (vr_of hr) (w.alloc (.cells #[.string r.key, .int .i64 r.v.kind, .int .i64 r.v.int, .string r.v.text, .slice r.v.p r.v.n r.v.c, .slice r.p r.n r.c] 27)).heap.size W (.slice none 0 0) [] (World.ownsRow_nil _ _ _ _) hW.size (((hin.below ha).mono (fun b hb _ => by have := hS b hb; have := ha.size; omega)).below hW) (by simp)
  have HA := hid ha
  simp only [List.nil_append] at HC
  unfold RT.val at HC ⊢
  clear ha hS
  go_enter Try.func64, Try.ntmps64
  go_wp2_with fail
  refine (HC.out _ ?_).mono ?_
  · first | exact Below.refl _ _ | exact (Below.refl _ _).drew
  rintro x w1 ⟨v1, rfl, h1⟩
  have HO := hid (h1.own.mono HA.out.size)
  have HB := hid (HA.out.trans (h1.bel.mono HA.out.size))
  clear h1 HC
  go_wp2
  refine bodyPost_ret (v := .tuple #[v1, .int .i64 0]) (by simp [results, Try.results64, go_sem]) rfl ?_
  exact ⟨v1, rfl, HO.out, HB.out⟩
set_option maxHeartbeats 4000000 in
theorem putRec_any (r : RT) (w : World) (S : Nat → Prop) (hin : RT.In w S r) (hr : chkRec r = 0) (hS : ∀ b, S b → b < w.heap.size) : Calls Try.prog 23 #[r.val] w fun x w' => PutP (recB r) w x w' := by
  have ha : Below w.heap.size w (w.alloc (.cells #[.string r.key, .int .i64 r.v.kind, .int .i64 r.v.int, .string r.v.text, .slice r.v.p r.v.n r.v.c, .slice r.p r.n r.c] 27)) := (Below.refl _ _).alloc (Nat.le_refl _) _
  have HK : Hid (∀ W, Below (w.alloc (.cells #[.string r.key, .int .i64 r.v.kind, .int .i64 r.v.int, .string r.v.text, .slice r.v.p r.v.n r.v.c, .slice r.p r.n r.c] 27)).heap.size (w.alloc (.cells #[.string r.key, .int .i64 r.v.kind, .int .i64 r.v.int, .string r.v.text, .slice r.v.p r.v.n r.v.c, .slice r.p r.n r.c] 27)) W → Calls Try.prog 65 #[r.val] W fun x w' => okPost W x w') := fun W hW => by have h := checkRecord_any r W S ((hin.below ha).below hW) (fun b hb => by have := hS b hb; have := ha.size; have := hW.size; omega); rw [hr] at h; exact h
  have HC : Hid (∀ W, Below (w.alloc (.cells #[.string r.key, .int .i64 r.v.kind, .int .i64 r.v.int, .string r.v.text, .slice r.v.p r.v.n r.v.c, .slice r.p r.n r.c] 27)).heap.size (w.alloc (.cells #[.string r.key, .int .i64 r.v.kind, .int .i64 r.v.int, .string r.v.text, .slice r.v.p r.v.n r.v.c, .slice r.p r.n r.c] 27)) W → Calls Try.prog 64 #[r.val, .int .i64 0, .func (.func 66) #[] #[]] W fun x w' => PutP (recB r) W x w') := fun W hW => writtenRec r W S ((hin.below ha).below hW) hr (fun b hb => by have := hS b hb; have := ha.size; have := hW.size; omega)
  have HA := hid ha
  have hbx := Box.new w #[.string r.key, .int .i64 r.v.kind, .int .i64 r.v.int, .string r.v.text, .slice r.v.p r.v.n r.v.c, .slice r.p r.n r.c] 27
  have c0 := hbx.cell 0
  have c1 := hbx.cell 1
  have c2 := hbx.cell 2
  have c3 := hbx.cell 3
  have c4 := hbx.cell 4
  have c5 := hbx.cell 5
  simp only [List.getElem?_toArray, List.getElem?_cons_zero, List.getElem?_cons_succ] at c0 c1 c2 c3 c4 c5
  have HBx := hid hbx
  unfold RT.val at HK HC ⊢
  clear ha hS hbx
  go_enter Try.func23, Try.ntmps23
  go_wp2_with fail
  go_region_law (first
    | (refine step_call rfl 65 #[.tmp 5] _ rfl Try.f65 Try.func65 (by kernel_rfl) rfl #[.agg #[.string r.key, .int .i64 r.v.kind, .int .i64 r.v.int, .string r.v.text, .slice r.v.p r.v.n r.v.c, .slice r.p r.n r.c]] rfl _ (HK.out _ ?_) ?_
       · exact (Below.refl _ _).drew
       rintro e1 w2 ⟨rfl, hb2⟩
       refine ⟨_, rfl, ?_⟩
       have hb3 : Below (w.alloc (.cells #[.string r.key, .int .i64 r.v.kind, .int .i64 r.v.int, .string r.v.text, .slice r.v.p r.v.n r.v.c, .slice r.p r.n r.c] 27)).heap.size (w.alloc (.cells #[.string r.key, .int .i64 r.v.kind, .int .i64 r.v.int, .string r.v.text, .slice r.v.p r.v.n r.v.c, .slice r.p r.n r.c] 27)) w2 := (Below.refl _ _).drew.trans hb2
       have hx2 := HBx.out.below hb3
       have y0 := hx2.cell 0
       have y1 := hx2.cell 1
       have y2 := hx2.cell 2
       have y3 := hx2.cell 3
       have y4 := hx2.cell 4
       have y5 := hx2.cell 5
       simp only [List.getElem?_toArray, List.getElem?_cons_zero, List.getElem?_cons_succ] at y0 y1 y2 y3 y4 y5)
    | (refine step_call rfl 64 #[.tmp 4, .tmp 6, .func 66] _ rfl Try.f64 Try.func64 (by kernel_rfl) rfl #[.agg #[.string r.key, .int .i64 r.v.kind, .int .i64 r.v.int, .string r.v.text, .slice r.v.p r.v.n r.v.c, .slice r.p r.n r.c], .int .i64 0, .func (.func 66) #[] #[]] rfl _ (HC.out _ hb3) ?_
       rintro e3 w3 ⟨v3, rfl, ho3, hb4⟩
       refine ⟨_, rfl, ?_⟩
       have HF := hid (And.intro (ho3.mono (Nat.le_trans HA.out.size hb3.size)) ((HA.out.trans (hb3.mono HA.out.size)).trans (hb4.mono (Nat.le_trans HA.out.size hb3.size))))))
  all_goals
    clear hb2 hb3 hx2 ho3 hb4
    go_wp2
    refine bodyPost_ret (v := .tuple #[v3, .int .i64 0]) (by simp [results, Try.results23, go_sem]) rfl ?_
    exact ⟨v3, rfl, HF.out.1, HF.out.2⟩
end Go.Proofs.Ytikfpoabaaiegaa
