import Derived.Test.YtdncnnjhfipokabPack7
namespace Go.Proofs.Ytdncnnjhfipokab
open Go.RowKit
set_option maxRecDepth 8000
/-- the book's own cells changed, its logs not -/
theorem BkI.chg {w w2 : World} {b : Nat} {K K' : Bk} (h : BkI w b K) (hlg : K'.lg = K.lg) (hbox : Box w2 b K'.arr 83) (hbut : But (fun k => k = b) w w2)
    (hm : K'.mode = K.mode) (hp : K'.ports = K.ports) (hk : K'.back = K.back) (hn0 : 0 ≤ K'.now) (hn1 : K'.now ≤ 9999) (hs : ∀ i, i < 4 → K'.st i = 0 ∨ K'.st i = 1 ∨ K'.st i = 2) : SetLog w b K w2 K' := by
  have hlv : ∀ i, K'.lv i = K.lv i := fun i => by unfold Bk.lv; rw [hlg]
  refine ⟨⟨hbox, fun i hi => ?_, fun i hi => ?_, fun i j hi hj hij k hk => ?_, ?_, ?_, ?_, ?_, ?_, ?_, hn0, hn1, hs⟩, ?_, fun k hk => ?_⟩
  · rw [hlv, hlg]; exact ownsRow_keep (h.own i hi) fun k hk hl => hbut.block k hl (fun e => h.ne i hi (e ▸ hk))
  · rw [hlv]; exact h.ne i hi
  · rw [hlv] at hk ⊢; exact h.dis i j hi hj hij k hk
  · rw [hm]; exact h.m0
  · rw [hm]; exact h.m1
  · rw [hp]; exact h.p0
  · rw [hp]; exact h.p1
  · rw [hk]; exact h.b0
  · rw [hk, hp]; exact h.b1
  · exact hbut.mono fun k _ e => .inl e
  · rcases hk with rfl | ⟨i, hi, e⟩
    · exact .inl (.inl rfl)
    · rw [hlv] at e; exact .inl (.inr ⟨i, hi, e⟩)
theorem SetLog.trans {w w1 w2 : World} {b : Nat} {K K1 K2 : Bk} (h : SetLog w b K w1 K1) (g : SetLog w1 b K1 w2 K2) : SetLog w b K w2 K2 := by
  refine ⟨g.inv, ⟨g.but.os.trans h.but.os, g.but.tape.trans h.but.tape, g.but.output.trans h.but.output, Nat.le_trans h.but.size g.but.size, fun k hk hx => ?_⟩, fun k hk => ?_⟩
  · refine (g.but.block k (Nat.lt_of_lt_of_le hk h.but.size) (fun e => ?_)).trans (h.but.block k hk hx)
    rcases h.cs k e with e1 | e1
    · exact hx e1
    · omega
  · rcases g.cs k hk with e | e
    · exact h.cs k e
    · exact .inr (Nat.le_trans h.but.size e)
/-- what lies in new blocks stays -/
theorem SetLog.new {w1 w2 : World} {b : Nat} {K1 K2 : Bk} (g : SetLog w1 b K1 w2 K2) {k : Nat} (hk : k < w1.heap.size) (hn : ¬ K1.C b k) : w2.heap[k]? = w1.heap[k]? := g.but.block k hk hn
structure LT.Alk {α : Type} (R : α → α → Prop) (l u : LT α) : Prop where
  n : u.n = l.n
  item : ∀ j, j < l.n → R (l.item j) (u.item j)
structure SzR (l : LT RT) : Prop where
  n : l.n ≤ 10000
  item : ∀ j, j < l.n → (l.item j).size ≤ 10000
structure SzC (l : LT VT) : Prop where
  n : l.n ≤ 10000
  item : ∀ j, j < l.n → (l.item j).total ≤ 10000
def Bk.copied (K : Bk) (num : Int) (u : LT VT) (v : LT RT) : Bk := { K with cp := true, num := num, cl := u, pd := v }
structure CopyQ (num : Int) (l : LT VT) (q : LT RT) (w : World) (b : Nat) (K : Bk) (w' : World) (K' : Bk) : Prop where
  s : SetLog w b K w' K'
  y : K.cp = true → K' = K
  n : K.cp = false → ∃ u v, K' = K.copied num u v ∧ LT.Alk VT.Alike l u ∧ LT.Alk RT.Alike q v ∧ LT.In elCell w' (fun k => w.heap.size ≤ k) u ∧ LT.In elRec w' (fun k => w.heap.size ≤ k) v
set_option maxHeartbeats 4000000 in
theorem copy_any (num : Int) (l : LT VT) (q : LT RT) (w : World) (S : Nat → Prop) (b : Nat) (K : Bk) (hI : BkI w b K) (hl : LT.In elCell w S l) (hq : LT.In elRec w S q) (sl : SzC l) (sq : SzR q) :
    Calls Try.prog 55 #[.pointer (some ⟨b, 3, none⟩), .agg #[.int .i64 num, .slice l.p l.n l.c], .slice q.p q.n q.c] w fun e w' => ∃ K', e = .returned (.bool (!K.cp)) ∧ CopyQ num l q w b K w' K' := by
  have hB : Below w.heap.size w (w.alloc (.cells #[.int .i64 num, .slice l.p l.n l.c] 42)) := (Below.refl _ _).alloc (Nat.le_refl _) _
  have HB := hid hB
  have HI := hid hI
  have c8 := hI.box.cell 8
  have hbl := hI.box.lt
  simp [Bk.arr] at c8
  rcases hc : K.cp with _ | _
  rotate_left
  · rw [hc] at c8
    clear hI hl hq sl sq hB
    go_enter Try.func55, Try.ntmps55
    go_wp2
    refine bodyPost_ret (v := .bool false) (by simp [results, Try.results55, go_sem]) rfl ⟨K, rfl, SetLog.same HI.out HB.out, fun _ => rfl, fun h => by rw [hc] at h; cases h⟩
  · rw [hc] at c8
    have HS : Hid (∀ V, Below w.heap.size w V → Calls Try.prog 64 #[.agg #[.int .i64 num, .slice l.p l.n l.c]] V fun e w' => ∃ u : LT VT, e = .returned (.agg #[.int .i64 num, .slice u.p u.n u.c]) ∧ u.n = l.n ∧ (∀ j, j < l.n → VT.Alike (l.item j) (u.item j)) ∧ LT.In elCell w' (fun b => V.heap.size ≤ b) u ∧ Below V.heap.size V w') := fun V hV =>
      freshS num l V (fun k => S k ∧ k < w.heap.size) ((hl.mono fun k hk hl => ⟨hk, hl⟩).kept hV.size (fun k hk _ => hV.block k hk.2)) sl.n sl.item
    have HR : Hid (∀ V, Below w.heap.size w V → Calls Try.prog 54 #[.slice q.p q.n q.c] V fun e w' => ∃ u : LT RT, e = .returned (.slice u.p u.n u.c) ∧ u.n = q.n ∧ (∀ j, j < q.n → RT.Alike (q.item j) (u.item j)) ∧ LT.In elRec w' (fun b => V.heap.size ≤ b) u ∧ Below V.heap.size V w') := fun V hV =>
      freshRs q V (fun k => S k ∧ k < w.heap.size) ((hq.mono fun k hk hl => ⟨hk, hl⟩).kept hV.size (fun k hk _ => hV.block k hk.2)) sq.n sq.item
    clear hI hl hq sl sq hB
    go_enter Try.func55, Try.ntmps55
    go_wp2_with fail
    refine (HS.out _ HB.out).mono ?_
    rintro e w1 ⟨u, rfl, un, ual, uin, ub⟩
    have hb1 : Below w.heap.size w w1 := HB.out.trans (ub.mono (by simp))
    have HU := hid (And.intro (LT.Alk.mk (R := VT.Alike) un ual) (And.intro (uin.mono (S' := fun k => w.heap.size ≤ k) (fun k hk _ => Nat.le_trans (by simp) hk)) hb1))
    clear un ual uin ub hb1 HS
    go_wp2_with fail
    refine (HR.out _ HU.out.2.2).mono ?_
    rintro e w2 ⟨v, rfl, vn, val, vin, vb⟩
    have hb2 : Below w.heap.size w w2 := HU.out.2.2.trans (vb.mono HU.out.2.2.size)
    have HV := hid (And.intro (LT.Alk.mk (R := RT.Alike) vn val) (And.intro (vin.mono (S' := fun k => w.heap.size ≤ k) (fun k hk _ => Nat.le_trans HU.out.2.2.size hk)) hb2))
    have HU2 := hid (HU.out.2.1.below vb)
    have hI2 := HI.out.below hb2
    have HI2 := hid hI2
    have y8 := hI2.box.cell 8
    have y9 := hI2.box.cell 9
    have y10 := hI2.box.cell 10
    have y11 := hI2.box.cell 11
    have f8 := hI2.box.frozen 8
    have f9 := hI2.box.frozen 9
    have f10 := hI2.box.frozen 10
    have f11 := hI2.box.frozen 11
    have hbl2 := hI2.box.lt
    simp [Bk.arr] at y8 y9 y10 y11
    clear vn val vin vb hb2 HR hI2
    go_wp2
    have hset : But (fun x => x = b) w2 ((((w2.setCell ⟨b, 8, none⟩ (.bool true)).setCell ⟨b, 9, none⟩ (.int .i64 num)).setCell ⟨b, 10, none⟩ (.slice u.p u.n u.c)).setCell ⟨b, 11, none⟩ (.slice v.p v.n v.c)) := ((((But.one w2 b).setAt 8 _).setAt 9 _).setAt 10 _).setAt 11 _
    refine bodyPost_ret (v := .bool true) (by simp [results, Try.results55, go_sem]) rfl ⟨K.copied num u v, rfl, ?_, fun h => (by rw [hc] at h; cases h), fun _ => ⟨u, v, rfl, HU.out.1, HV.out.1, ?_, ?_⟩⟩
    · refine (SetLog.same HI.out HV.out.2.2).trans (HI2.out.chg rfl ?_ hset rfl rfl rfl HI2.out.n0 HI2.out.n1 HI2.out.s0)
      exact (((HI2.out.box.set 8 (.bool true)).set 9 (.int .i64 num)).set 10 (.slice u.p u.n u.c)).set 11 (.slice v.p v.n v.c)
    · exact (HU2.out).kept hset.size (fun k hk hl => hset.block k hl (fun e => by omega))
    · exact (HV.out.2.1).kept hset.size (fun k hk hl => hset.block k hl (fun e => by omega))
end Go.Proofs.Ytdncnnjhfipokab

namespace Go.Proofs.Ytdncnnjhfipokab
open Go.RowKit
set_option maxRecDepth 8000
def Bk.okP (K : Bk) (p : Nat) : Bool := ((p : Int) == K.back) || !(K.st p == 0)
def Bk.alig (K : Bk) : Bool := (List.range K.ports.toNat).all fun p => K.okP p
set_option maxHeartbeats 2000000 in
theorem aligned_any (w : World) (b : Nat) (K : Bk) (hI : BkI w b K) : Calls Try.prog 56 #[.pointer (some ⟨b, 0, none⟩)] w fun e w' => e = .returned (.bool K.alig) ∧ w' = w := by
  have c1 := hI.box.cell 1
  have c2 := hI.box.cell 2
  have HI := hid hI
  obtain ⟨N, hN⟩ : ∃ N : Nat, K.ports = (N : Int) := ⟨K.ports.toNat, by have := hI.p0; omega⟩
  have hp1 := hI.p1
  simp [Bk.arr] at c1 c2
  rw [hN] at c1
  clear hI
  go_enter Try.func56, Try.ntmps56
  go_wp2_with fail
  go_loopw [8] (fun x wr => wr = w ∧ ∃ k : Nat, k ≤ N ∧ x = .int .i64 (k : Int) ∧ ∀ p, p < k → K.okP p = true) (fun x _ => N - (intOf x).toNat)
  case atStart => exact ⟨rfl, 0, Nat.zero_le _, rfl, fun p hp => absurd hp (by omega)⟩
  case round =>
    obtain ⟨rfl, k, hk, rfl, hok⟩ := hrel
    have HOk := hid hok
    clear hok
    by_cases hlt : k < N
    · have hlt' : (k : Int) < (N : Int) := by omega
      have hk4 : (k : Int) < 4 := by omega
      have cs := HI.out.cs (i := k) (by omega)
      by_cases hb : (k : Int) = K.back
      · have hq : K.okP k = true := by simp [Bk.okP, hb]
        have hb' : ((k : Int) != K.back) = false := by simp [hb]
        go_wp2
        go_roundw
        case rel => exact ⟨trivial, k + 1, by omega, by go_num, fun p hp => by rcases Nat.lt_or_ge p k with h | h; exact HOk.out p h; rw [show p = k by omega]; exact hq⟩
        case measure => simp [intOf]; omega
      · by_cases hs : K.st k = 0
        · rw [hs] at cs
          go_wp2
          have hf : K.alig = false := by
            unfold Bk.alig
            rw [List.all_eq_false]
            refine ⟨k, List.mem_range.2 (by omega), ?_⟩
            simp [Bk.okP, hb, hs]
          refine bodyPost_ret (v := .bool false) (by simp [results, Try.results56, go_sem]) rfl ⟨by rw [hf], rfl⟩
        · have hq : K.okP k = true := by simp [Bk.okP, hs]
          have hb' : ((k : Int) != K.back) = true := by simp [hb]
          have hs' : (K.st k == 0) = false := by simp [hs]
          go_wp2
          go_roundw
          case rel => exact ⟨trivial, k + 1, by omega, by go_num, fun p hp => by rcases Nat.lt_or_ge p k with h | h; exact HOk.out p h; rw [show p = k by omega]; exact hq⟩
          case measure => simp [intOf]; omega
    · have hlt' : ¬ (k : Int) < (N : Int) := by omega
      go_wp2
      have hf : K.alig = true := by
        unfold Bk.alig
        rw [List.all_eq_true]
        intro p hp
        exact HOk.out p (by have := List.mem_range.1 hp; omega)
      refine bodyPost_ret (v := .bool true) (by simp [results, Try.results56, go_sem]) rfl ⟨by rw [hf], rfl⟩
def Bk.setSt (K : Bk) (i : Nat) (v : Int) : Bk := { K with st := fun j => if j = i then v else K.st j }
theorem Bk.arr_st (K : Bk) {i : Nat} (hi : i < 4) (v : Int) : K.arr.setIfInBounds (4 + i) (.int .i64 v) = (K.setSt i v).arr := by
  rcases (by omega : i = 0 ∨ i = 1 ∨ i = 2 ∨ i = 3) with rfl | rfl | rfl | rfl <;> simp [Bk.arr, Bk.setSt]
/-- the ports that were held are let go, up to the port n -/
def Bk.rel (K : Bk) (n : Nat) : Bk := { K with st := fun i => if i < n ∧ K.st i = 2 then 1 else K.st i }
theorem Bk.rel_zero (K : Bk) : K.rel 0 = K := by simp [Bk.rel]
theorem Bk.rel_held (K : Bk) {k : Nat} (h : K.st k = 2) : (K.rel k).setSt k 1 = K.rel (k + 1) := by
  unfold Bk.rel Bk.setSt
  congr 1
  funext i
  by_cases hi : i = k
  · subst hi; simp [h]
  · simp only [if_neg hi]
    by_cases h1 : i < k
    · have : i < k + 1 := by omega
      simp [h1, this]
    · have : ¬ i < k + 1 := by omega
      simp [h1, this]
theorem Bk.rel_open (K : Bk) {k : Nat} (h : ¬ K.st k = 2) : K.rel k = K.rel (k + 1) := by
  unfold Bk.rel
  congr 1
  funext i
  by_cases hi : i = k
  · subst hi; simp [h]
  · by_cases h1 : i < k
    · have : i < k + 1 := by omega
      simp [h1, this]
    · have : ¬ i < k + 1 := by omega
      simp [h1, this]
theorem Bk.rel_at (K : Bk) (k : Nat) : (K.rel k).st k = K.st k := by simp [Bk.rel]
theorem Bk.rel_s (K : Bk) (n : Nat) (h : ∀ i, i < 4 → K.st i = 0 ∨ K.st i = 1 ∨ K.st i = 2) : ∀ i, i < 4 → (K.rel n).st i = 0 ∨ (K.rel n).st i = 1 ∨ (K.rel n).st i = 2 := by
  intro i hi
  simp only [Bk.rel]
  split
  · exact .inr (.inl rfl)
  · exact h i hi
set_option maxHeartbeats 2000000 in
theorem release_any (w : World) (b : Nat) (K : Bk) (hI : BkI w b K) : Calls Try.prog 57 #[.pointer (some ⟨b, 3, none⟩)] w fun e w' => e = .returned (.tuple #[]) ∧ SetLog w b K w' (K.rel 4) := by
  have HI := hid hI
  clear hI
  go_enter Try.func57, Try.ntmps57
  go_wp2_with fail
  go_loopw [3] (fun x wr => ∃ k : Nat, k ≤ 4 ∧ x = .int .i64 (k : Int) ∧ Box wr b (K.rel k).arr 83 ∧ But (fun y => y = b) w wr) (fun x _ => 4 - (intOf x).toNat)
  case atStart => exact ⟨0, Nat.zero_le _, rfl, by rw [Bk.rel_zero]; exact HI.out.box, But.one _ _⟩
  case round =>
    obtain ⟨k, hk, rfl, hX, hbut⟩ := hrel
    have HB := hid (And.intro hX hbut)
    have hbl := hX.lt
    by_cases hlt : k < 4
    · have hlt' : (k : Int) < 4 := by omega
      have cs : wr.cell? ⟨b, 4 + k, none⟩ = some (.int .i64 (K.st k)) := by
        rw [hX.cell, ← Bk.rel_at K k]
        rcases (by omega : k = 0 ∨ k = 1 ∨ k = 2 ∨ k = 3) with rfl | rfl | rfl | rfl <;> rfl
      have fs := hX.frozen (4 + k)
      clear hX hbut
      by_cases hs : K.st k = 2
      · have hX2 := HB.out.1.set (4 + k) (.int .i64 1)
        rw [Bk.arr_st _ hlt, Bk.rel_held K hs] at hX2
        have HX2 := hid hX2
        rw [hs] at cs
        clear hX2
        go_wp2
        go_roundw
        case rel => exact ⟨k + 1, by omega, by go_num, HX2.out, HB.out.2.setAt (4 + k) _⟩
        case measure => simp [intOf]; omega
      · have hX2 := HB.out.1
        rw [Bk.rel_open K hs] at hX2
        have HX2 := hid hX2
        clear hX2
        go_wp2
        go_roundw
        case rel => exact ⟨k + 1, by omega, by go_num, HX2.out, HB.out.2⟩
        case measure => simp [intOf]; omega
    · obtain rfl : k = 4 := by omega
      clear hX hbut
      go_wp2_with fail
      go_end0
      exact ⟨rfl, HI.out.chg rfl HB.out.1 HB.out.2 rfl rfl rfl HI.out.n0 HI.out.n1 (K.rel_s 4 HI.out.s0)⟩
/-- why a marker can't be taken -/
def Bk.refE (K : Bk) (x id : Int) : Int := if K.has x = false then 132 else if id < 1 ∨ 9999 < id then 133 else if K.held x = true then 134 else 0
set_option maxHeartbeats 2000000 in
theorem refusal_any (x id : Int) (w : World) (b : Nat) (K : Bk) (hI : BkI w b K) : Calls Try.prog 44 #[.pointer (some ⟨b, 0, none⟩), .int .i64 x, .int .i64 id] w fun e w' => e = .returned (.int .i64 (K.refE x id)) ∧ w' = w := by
  have HH := hid (has_any x w b K hI)
  have HG := hid (held_any x w b K hI)
  clear hI
  rcases hh : K.has x with _ | _
  · have HE : Hid (K.refE x id = 132) := by unfold Hid; rw [Bk.refE, if_pos hh]
    go_enter Try.func44, Try.ntmps44
    go_wp2_with fail
    refine HH.out.mono ?_
    rintro e w1 ⟨rfl, rfl⟩
    rw [hh]
    go_wp2
    refine bodyPost_ret (v := .int .i64 132) (by simp [results, Try.results44, go_sem]) rfl ⟨by rw [HE.out], rfl⟩
  by_cases hid1 : id < 1
  · have HE : Hid (K.refE x id = 133) := by unfold Hid; rw [Bk.refE, if_neg (by rw [hh]; decide), if_pos (.inl hid1)]
    go_enter Try.func44, Try.ntmps44
    go_wp2_with fail
    refine HH.out.mono ?_
    rintro e w1 ⟨rfl, rfl⟩
    rw [hh]
    go_wp2
    refine bodyPost_ret (v := .int .i64 133) (by simp [results, Try.results44, go_sem]) rfl ⟨by rw [HE.out], rfl⟩
  by_cases hid2 : 9999 < id
  · have HE : Hid (K.refE x id = 133) := by unfold Hid; rw [Bk.refE, if_neg (by rw [hh]; decide), if_pos (.inr hid2)]
    go_enter Try.func44, Try.ntmps44
    go_wp2_with fail
    refine HH.out.mono ?_
    rintro e w1 ⟨rfl, rfl⟩
    rw [hh]
    go_wp2
    refine bodyPost_ret (v := .int .i64 133) (by simp [results, Try.results44, go_sem]) rfl ⟨by rw [HE.out], rfl⟩
  rcases hd : K.held x with _ | _
  · have HE : Hid (K.refE x id = 0) := by unfold Hid; rw [Bk.refE, if_neg (by rw [hh]; decide), if_neg (by omega), if_neg (by rw [hd]; decide)]
    go_enter Try.func44, Try.ntmps44
    go_wp2_with fail
    refine HH.out.mono ?_
    rintro e w1 ⟨rfl, rfl⟩
    rw [hh]
    go_wp2_with fail
    refine HG.out.mono ?_
    rintro e w1 ⟨rfl, rfl⟩
    rw [hd]
    go_wp2
    refine bodyPost_ret (v := .int .i64 0) (by simp [results, Try.results44, go_sem]) rfl ⟨by rw [HE.out], rfl⟩
  · have HE : Hid (K.refE x id = 134) := by unfold Hid; rw [Bk.refE, if_neg (by rw [hh]; decide), if_neg (by omega), if_pos hd]
    go_enter Try.func44, Try.ntmps44
    go_wp2_with fail
    refine HH.out.mono ?_
    rintro e w1 ⟨rfl, rfl⟩
    rw [hh]
    go_wp2_with fail
    refine HG.out.mono ?_
    rintro e w1 ⟨rfl, rfl⟩
    rw [hd]
    go_wp2
    refine bodyPost_ret (v := .int .i64 134) (by simp [results, Try.results44, go_sem]) rfl ⟨by rw [HE.out], rfl⟩
end Go.Proofs.Ytdncnnjhfipokab

namespace Go.Proofs.Ytdncnnjhfipokab
open Go.RowKit
set_option maxRecDepth 8000
theorem LT.In.src {α : Type} {E : El α} {w : World} {S : Nat → Prop} {l : LT α} (h : LT.In E w S l) : Src w l.p l.n l.c E.size ((List.range l.n).flatMap fun j => E.cells (l.item j)) := by
  cases hp : l.p with
  | none =>
    obtain ⟨h1, h2⟩ := h.nil hp
    rw [h1, h2]
    exact .inl ⟨rfl, rfl, rfl, rfl⟩
  | some ad =>
    refine .inr ⟨ad, rfl, range_flat_len E l.item l.n, fun j u hu => ?_⟩
    have hj : j < l.n * E.size := by
      rcases Nat.lt_or_ge j (l.n * E.size) with h1 | h1
      · exact h1
      · rw [List.getElem?_eq_none (by rw [range_flat_len]; exact h1)] at hu; cases hu
    have hs : 0 < E.size := by
      rcases Nat.eq_zero_or_pos E.size with h1 | h1
      · rw [h1] at hj; omega
      · exact h1
    have hq : j / E.size < l.n := Nat.div_lt_of_lt_mul (by rw [Nat.mul_comm]; exact hj)
    have hr : j % E.size < E.size := Nat.mod_lt _ hs
    have e : j / E.size * E.size + j % E.size = j := by rw [Nat.mul_comm]; exact Nat.div_add_mod j E.size
    obtain ⟨b, o, e1, _, _, ha⟩ := h.at_ (Nat.lt_of_le_of_lt (Nat.zero_le _) hq)
    rw [hp] at e1
    cases e1
    rw [← e, range_flat_get E l.item l.n _ _ hq hr] at hu
    have := ha _ hq _ u hu
    rw [Nat.add_assoc, e] at this
    rw [Go.WideShapes.add_plain]
    exact this
def Bk.shutR (K : Bk) (i : Nat) : Bool := if K.mode = 1 then ((K.setSt i 2).alig && !K.cp) else !K.cp
def Bk.shutS (K : Bk) (i : Nat) : Nat → Int := if K.mode = 1 then (if (K.setSt i 2).alig then ((K.setSt i 2).rel 4).st else (K.setSt i 2).st) else (K.setSt i 1).st
structure ShutB (i : Nat) (a : LT RT) (num : Int) (l : LT VT) (q : LT RT) (w : World) (b : Nat) (K : Bk) (w' : World) (K' : Bk) : Prop where
  s : SetLog w b K w' K'
  now : K'.now = K.now
  mode : K'.mode = K.mode
  ports : K'.ports = K.ports
  back : K'.back = K.back
  cp : K'.cp = (K.cp || K.shutR i)
  lgo : ∀ j, j ≠ i → K'.lg j = K.lg j
  lgi : K.mode ≠ 3 → K'.lg i = K.lg i
  lg3 : K.mode = 3 → ∃ m p c, K'.lg i = (K.lg i).join m p c ∧ LT.Alk RT.Alike a m ∧ ∀ j, j < m.n → RT.In w' (fun k => w.heap.size ≤ k ∧ ¬ K'.C b k) (m.item j)
  cpd : K.shutR i = true → K'.num = num ∧ LT.Alk VT.Alike l K'.cl ∧ LT.Alk RT.Alike q K'.pd ∧ LT.In elCell w' (fun k => w.heap.size ≤ k ∧ ¬ K'.C b k) K'.cl ∧ LT.In elRec w' (fun k => w.heap.size ≤ k ∧ ¬ K'.C b k) K'.pd
  ncp : K.shutR i = false → K'.num = K.num ∧ K'.cl = K.cl ∧ K'.pd = K.pd
structure ShutQ (i : Nat) (a : LT RT) (num : Int) (l : LT VT) (q : LT RT) (w : World) (b : Nat) (K : Bk) (w' : World) (K' : Bk) : Prop where
  b : ShutB i a num l q w b K w' K'
  st : K'.st = K.shutS i
/-- a stand set: the book's memory -/
theorem BkI.setSt {w w1 : World} {b : Nat} {K : Bk} {i : Nat} (h : BkI w b K) (hi : i < 4) (hb : Below w.heap.size w w1) (v : Int) (hv : v = 0 ∨ v = 1 ∨ v = 2) : SetLog w b K (w1.setCell ⟨b, 4 + i, none⟩ (.int .i64 v)) (K.setSt i v) := by
  have h1 := h.below hb
  refine (SetLog.same h hb).trans (h1.chg rfl ?_ ((But.one w1 b).setAt (4 + i) _) rfl rfl rfl h1.n0 h1.n1 (fun j hj => ?_))
  · have := h1.box.set (4 + i) (.int .i64 v)
    rwa [Bk.arr_st K hi v] at this
  · simp only [Bk.setSt]
    split
    · exact hv
    · exact h1.s0 j hj
theorem SetLog.drew {w w1 : World} {b : Nat} {K K1 : Bk} (h : SetLog w b K w1 K1) : SetLog w b K w1.drew K1 := h.trans (SetLog.same h.inv (Below.refl _ _).drew)
theorem BkI.new {w w' : World} {b : Nat} {K K' : Bk} (h : BkI w b K) (g : SetLog w b K w' K') (hlg : ∀ j, j < 4 → K'.lv j = K.lv j) {k : Nat} (hk : w.heap.size ≤ k) : ¬ K'.C b k := by
  rintro (rfl | ⟨j, hj, e⟩)
  · have := h.box.lt; omega
  · rw [hlg j hj] at e; have := h.lt (.inr ⟨j, hj, e⟩); omega
theorem ShutB.ofCopy {i : Nat} {a : LT RT} {num : Int} {l : LT VT} {q : LT RT} {w W2 w4 : World} {b : Nat} {K K2 K4 : Bk} (h2 : SetLog w b K W2 K2) (hR : K.shutR i = !K.cp)
    (ho : ∀ j, j ≠ i → K2.lg j = K.lg j) (h3 : K.mode ≠ 3 → K2.lg i = K.lg i) (hy : K.mode = 3 → ∃ m p c, K2.lg i = (K.lg i).join m p c ∧ LT.Alk RT.Alike a m ∧ ∀ j, j < m.n → RT.In W2 (fun k => w.heap.size ≤ k ∧ ¬ K2.C b k) (m.item j)) (h4 : CopyQ num l q W2.drew b K2 w4 K4)
    (hs : K2.now = K.now ∧ K2.mode = K.mode ∧ K2.ports = K.ports ∧ K2.back = K.back ∧ K2.cp = K.cp ∧ K2.num = K.num ∧ K2.cl = K.cl ∧ K2.pd = K.pd := by exact ⟨rfl, rfl, rfl, rfl, rfl, rfl, rfl, rfl⟩) : ShutB i a num l q w b K w4 K4 ∧ K4.st = K2.st := by
  obtain ⟨e1, e2, e3, e4, e5, e6, e7, e8⟩ := hs
  have hf : K4.now = K2.now ∧ K4.mode = K2.mode ∧ K4.ports = K2.ports ∧ K4.back = K2.back ∧ K4.st = K2.st ∧ K4.lg = K2.lg := by
    rcases hc : K2.cp with _ | _
    · obtain ⟨u, v, rfl, _⟩ := h4.n hc; exact ⟨rfl, rfl, rfl, rfl, rfl, rfl⟩
    · rw [h4.y hc]; exact ⟨rfl, rfl, rfl, rfl, rfl, rfl⟩
  obtain ⟨f1, f2, f3, f4, f5, f6⟩ := hf
  have hC : ∀ k, K4.C b k ↔ K2.C b k := fun k => by unfold Bk.C Bk.lv; rw [f6]
  have hss := h2.drew.trans h4.s
  refine ⟨⟨hss, f1.trans e1, f2.trans e2, f3.trans e3, f4.trans e4, ?_, fun j hj => by rw [f6]; exact ho j hj, fun h => by rw [f6]; exact h3 h, fun h => ?_, fun h => ?_, fun h => ?_⟩, f5⟩
  · rw [hR]
    rcases hc : K2.cp with _ | _
    · obtain ⟨u, v, rfl, _⟩ := h4.n hc
      rw [← e5, hc]; rfl
    · rw [h4.y hc, ← e5, hc]; rfl
  · obtain ⟨m, p, c, hm, hal, hin⟩ := hy h
    refine ⟨m, p, c, by rw [f6]; exact hm, hal, fun j hj => ?_⟩
    refine ((hin j hj).kept (w' := w4) h4.s.but.size (fun k hk hl => h4.s.but.block k hl hk.2)).mono fun k hk _ => ⟨hk.1, fun e => hk.2 ((hC k).1 e)⟩
  · have hc : K2.cp = false := by rw [e5]; rw [hR] at h; simpa using h
    obtain ⟨u, v, rfl, h5, h6, h7, h8⟩ := h4.n hc
    have hnew : ∀ k, W2.drew.heap.size ≤ k → w.heap.size ≤ k ∧ ¬ (K2.copied num u v).C b k := fun k hk => by
      have hk : W2.heap.size ≤ k := hk
      exact ⟨Nat.le_trans h2.but.size hk, fun e => by have := h2.inv.lt ((hC k).1 e); omega⟩
    exact ⟨rfl, h5, h6, h7.mono fun k hk _ => hnew k hk, h8.mono fun k hk _ => hnew k hk⟩
  · have hc : K2.cp = true := by rw [e5]; rw [hR] at h; simpa using h
    rw [h4.y hc]; exact ⟨e6, e7, e8⟩
theorem ShutB.rel {i : Nat} {a : LT RT} {num : Int} {l : LT VT} {q : LT RT} {w w4 w5 : World} {b : Nat} {K K4 : Bk} (h : ShutB i a num l q w b K w4 K4) (g : SetLog w4 b K4 w5 (K4.rel 4)) : ShutB i a num l q w b K w5 (K4.rel 4) := by
  have hC : ∀ k, (K4.rel 4).C b k ↔ K4.C b k := fun k => Iff.rfl
  have hk : ∀ k, (w.heap.size ≤ k ∧ ¬ K4.C b k) → k < w4.heap.size → w5.heap[k]? = w4.heap[k]? := fun k hk hl => g.but.block k hl hk.2
  refine ⟨h.s.trans g, h.now, h.mode, h.ports, h.back, h.cp, h.lgo, h.lgi, fun e => ?_, fun e => ?_, h.ncp⟩
  · obtain ⟨m, p, c, h1, h2, h3⟩ := h.lg3 e
    exact ⟨m, p, c, h1, h2, fun j hj => ((h3 j hj).kept g.but.size hk)⟩
  · obtain ⟨h1, h2, h3, h4, h5⟩ := h.cpd e
    exact ⟨h1, h2, h3, h4.kept g.but.size hk, h5.kept g.but.size hk⟩
set_option maxHeartbeats 4000000 in
theorem shut2_any (i : Nat) (hi : i < 4) (a : LT RT) (num : Int) (l : LT VT) (q : LT RT) (w : World) (S : Nat → Prop) (b : Nat) (K : Bk) (hI : BkI w b K) (hS : ∀ k, S k → ¬ K.C b k) (hl : LT.In elCell w S l) (hq : LT.In elRec w S q) (sl : SzC l) (sq : SzR q) (hm : K.mode = 2) :
    Calls Try.prog 45 #[.pointer (some ⟨b, 0, none⟩), .int .i64 (i : Int), .slice a.p a.n a.c, .agg #[.int .i64 num, .slice l.p l.n l.c], .slice q.p q.n q.c] w fun e w' => ∃ K', e = .returned (.bool (K.shutR i)) ∧ ShutQ i a num l q w b K w' K' := by
  have hB : Below w.heap.size w (w.alloc (.cells #[.int .i64 num, .slice l.p l.n l.c] 42)) := (Below.refl _ _).alloc (Nat.le_refl _) _
  have HX0 := hid (Box.new w #[.int .i64 num, .slice l.p l.n l.c] 42)
  have HB := hid hB
  have HI := hid hI
  have c0 := hI.box.cell 0
  have hbl := hI.box.lt
  have cs := hI.cs hi
  have fs := hI.box.frozen (4 + i)
  have hi4 : (i : Int) < 4 := by omega
  simp [Bk.arr] at c0
  rw [hm] at c0
  have HS := hid hS
  have HL := hid (And.intro hl (And.intro hq (And.intro sl sq)))
  clear hI hS hl hq sl sq hB
  go_enter Try.func45, Try.ntmps45
  go_wp2_with fail
  obtain ⟨W2, hW2⟩ : ∃ W2, W2 = (w.setCell ⟨b, 4 + i, none⟩ (.int .i64 1)).alloc (.cells #[.int .i64 num, .slice l.p l.n l.c] 42) := ⟨_, rfl⟩
  rw [← hW2]
  have HS2 : Hid (SetLog w b K W2 (K.setSt i 1)) := by rw [hW2]; exact (HI.out.setSt hi (Below.refl _ _) 1 (.inr (.inl rfl))).trans (SetLog.same (HI.out.setSt hi (Below.refl _ _) 1 (.inr (.inl rfl))).inv ((Below.refl _ _).alloc (Nat.le_refl _) _))
  have HX2 : Box W2 w.heap.size #[.int .i64 num, .slice l.p l.n l.c] 42 := by rw [hW2]; have := Box.new (w.setCell ⟨b, 4 + i, none⟩ (.int .i64 1)) #[.int .i64 num, .slice l.p l.n l.c] 42; simpa [World.setCell] using this
  have s0 := HX2.cell 0
  have s1 := HX2.cell 1
  simp at s0 s1
  have HL2 : Hid (∀ V : World, (∀ k, S k → k < w.heap.size → V.heap[k]? = W2.heap[k]?) → W2.heap.size ≤ V.heap.size → LT.In elCell V (fun k => S k ∧ k < w.heap.size) l ∧ LT.In elRec V (fun k => S k ∧ k < w.heap.size) q) := fun V hV hs =>
    ⟨(HL.out.1.mono fun k hk hl => ⟨hk, hl⟩).kept (Nat.le_trans HS2.out.but.size hs) (fun k hk _ => (hV k hk.1 hk.2).trans (HS2.out.but.block k hk.2 (HS.out k hk.1))), (HL.out.2.1.mono fun k hk hl => ⟨hk, hl⟩).kept (Nat.le_trans HS2.out.but.size hs) (fun k hk _ => (hV k hk.1 hk.2).trans (HS2.out.but.block k hk.2 (HS.out k hk.1)))⟩
  clear hW2 cs fs c0 HX2 HX0
  have HC := hid (copy_any num l q W2.drew (fun k => S k ∧ k < w.heap.size) b (K.setSt i 1) HS2.out.drew.inv (HL2.out W2.drew (fun _ _ _ => rfl) (Nat.le_refl _)).1 (HL2.out W2.drew (fun _ _ _ => rfl) (Nat.le_refl _)).2 HL.out.2.2.1 HL.out.2.2.2)
  refine wp_region_calmE 30 (fun wx => Below W2.heap.size W2 wx) [(0, true), (1, true), (2, true), (3, false), (4, true)] (.one 5 false [(6, true)] .done) (by kernel_rfl) (by kernel_rfl) (Below.refl _ _).drew ?_
  refine wpPre_e rfl rfl (fun K1 hK1 => ?_)
  apply Exists.intro
  refine And.intro (fun wx hx => ?_) ?_
  · go_simp
    try rfl
  go_simp
  refine hK1 _ ?_
  clear hK1 K1
  refine wpPre_e rfl rfl (fun K1 hK1 => ?_)
  apply Exists.intro
  refine And.intro (fun wx hx => ?_) ?_
  · go_simp
    try rfl
  go_simp
  refine hK1 _ ?_
  clear hK1 K1
  refine wpPre_e rfl rfl (fun K1 hK1 => ?_)
  apply Exists.intro
  refine And.intro (fun wx hx => ?_) ?_
  · go_simp
    try rfl
  go_simp
  refine hK1 _ ?_
  clear hK1 K1
  refine wpPre_e rfl rfl (fun K1 hK1 => ?_)
  apply Exists.intro
  refine And.intro (fun wx hx => ?_) ?_
  · have e0 := below_fact hx rfl s0
    have e1 := below_fact hx rfl s1
    go_simp
    try rfl
  go_simp
  refine hK1 _ ?_
  clear hK1 K1
  refine wpPre_e rfl rfl (fun K1 hK1 => ?_)
  apply Exists.intro
  refine And.intro (fun wx hx => ?_) ?_
  · go_simp
    try rfl
  go_simp
  refine hK1 _ ?_
  clear hK1 K1
  refine wpPre_nil ?_
  refine wpTr_e rfl (fun K1 hK1 => ?_)
  refine step_call rfl 55 #[.tmp 45, .tmp 46, .tmp 47] _ rfl Try.f55 Try.func55 (by kernel_rfl) rfl #[.pointer (some ⟨b, 3, none⟩), .agg #[.int .i64 num, .slice l.p l.n l.c], .slice q.p q.n q.c] rfl _ HC.out (fun e w4 h4 => ?_)
  obtain ⟨K4, rfl, hQ4⟩ := h4
  refine ⟨_, rfl, ?_⟩
  have HQ4 := hid hQ4
  clear hQ4 HC
  go_simp
  refine hK1 _ _ (fun h => by cases h) ?_
  clear hK1 K1
  refine wpPre_e rfl rfl (fun K1 hK1 => ?_)
  apply Exists.intro
  refine And.intro (fun wx hx => ?_) ?_
  · go_simp
    try rfl
  go_simp
  refine hK1 _ ?_
  clear hK1 K1
  refine wpPre_nil ?_
  refine wpTr_done ?_
  go_wp2
  have hR : K.shutR i = !K.cp := by rw [Bk.shutR, if_neg (by rw [hm]; decide)]
  have hSt : K.shutS i = (K.setSt i 1).st := by rw [Bk.shutS, if_neg (by rw [hm]; decide)]
  refine bodyPost_ret (v := .bool (!K.cp)) (by simp [results, Try.results45, go_sem, Bk.setSt]) rfl ⟨K4, by rw [hR], ?_⟩
  have h9 := ShutB.ofCopy (a := a) HS2.out hR (fun j _ => rfl) (fun _ => rfl) (fun h => by rw [hm] at h; cases h) HQ4.out
  exact ⟨h9.1, h9.2.trans hSt.symm⟩
end Go.Proofs.Ytdncnnjhfipokab
