import Derived.Test.YtnbcidlmckmaaaaKbT
namespace Go.Proofs.Ytnbcidlmckmaaaa
open Go.RowKit
set_option maxRecDepth 8000
/-- the book's own cells changed, its logs not -/
theorem BkI.chg {w w2 : World} {b : Nat} {K K' : Bk} (h : BkI w b K) (hlg : K'.lg = K.lg) (hbox : Box w2 b K'.arr 78) (hbut : But (fun k => k = b) w w2)
    (hm : K'.mode = K.mode) (hp : K'.ports = K.ports) (hk : K'.back = K.back) (hn0 : 0 ≤ K'.now) (hn1 : K'.now ≤ 9999) (hs : ∀ i, i < 4 → K'.st i = 0 ∨ K'.st i = 1 ∨ K'.st i = 2) : SetLog w b K w2 K' := by
  have hlv : ∀ i, K'.lv i = K.lv i := fun i => by unfold Bk.lv; rw [hlg]
  refine ⟨⟨hbox, fun i hi => ?_, fun i hi => ?_, fun i j hi hj hij k hk => ?_, ?_, ?_, ?_, ?_, ?_, ?_, hn0, hn1, hs⟩, ?_, fun k hk => ?_⟩
  · rw [hlv, hlg]; exact ownsRow_keep (h.own i hi) fun k hk hl => hbut.block k hl (fun e => h.ne i hi (e ▸ hk))
  · rw [hlv]; exact h.ne i hi
  · rw [hlv] at hk ⊢; exact h.dis i j hi hj hij k hk
  · rw [hm]; exact h.m0
  · rw [hm]; exact h.m1
  · rw [hp]; exact h.p0
  · rw [hp]; exact h.p1
  · rw [hk]; exact h.b0
  · rw [hk, hp]; exact h.b1
  · exact hbut.mono fun k _ e => .inl e
  · rcases hk with rfl | ⟨i, hi, e⟩
    · exact .inl (.inl rfl)
    · rw [hlv] at e; exact .inl (.inr ⟨i, hi, e⟩)
theorem SetLog.trans {w w1 w2 : World} {b : Nat} {K K1 K2 : Bk} (h : SetLog w b K w1 K1) (g : SetLog w1 b K1 w2 K2) : SetLog w b K w2 K2 := by
  refine ⟨g.inv, ⟨g.but.os.trans h.but.os, g.but.tape.trans h.but.tape, g.but.output.trans h.but.output, Nat.le_trans h.but.size g.but.size, fun k hk hx => ?_⟩, fun k hk => ?_⟩
  · refine (g.but.block k (Nat.lt_of_lt_of_le hk h.but.size) (fun e => ?_)).trans (h.but.block k hk hx)
    rcases h.cs k e with e1 | e1
    · exact hx e1
    · omega
  · rcases g.cs k hk with e | e
    · exact h.cs k e
    · exact .inr (Nat.le_trans h.but.size e)
/-- what lies in new blocks stays -/
theorem SetLog.new {w1 w2 : World} {b : Nat} {K1 K2 : Bk} (g : SetLog w1 b K1 w2 K2) {k : Nat} (hk : k < w1.heap.size) (hn : ¬ K1.C b k) : w2.heap[k]? = w1.heap[k]? := g.but.block k hk hn
structure LT.Alk {α : Type} (R : α → α → Prop) (l u : LT α) : Prop where
  n : u.n = l.n
  item : ∀ j, j < l.n → R (l.item j) (u.item j)
structure SzR (l : LT RT) : Prop where
  n : l.n ≤ 10000
  item : ∀ j, j < l.n → (l.item j).size ≤ 10000
structure SzC (l : LT VT) : Prop where
  n : l.n ≤ 10000
  item : ∀ j, j < l.n → (l.item j).total ≤ 10000
def Bk.copied (K : Bk) (num : Int) (u : LT VT) (v : LT RT) : Bk := { K with cp := true, num := num, cl := u, pd := v }
structure CopyQ (num : Int) (l : LT VT) (q : LT RT) (w : World) (b : Nat) (K : Bk) (w' : World) (K' : Bk) : Prop where
  s : SetLog w b K w' K'
  y : K.cp = true → K' = K
  n : K.cp = false → ∃ u v, K' = K.copied num u v ∧ LT.Alk VT.Alike l u ∧ LT.Alk RT.Alike q v ∧ LT.In elCell w' (fun k => w.heap.size ≤ k) u ∧ LT.In elRec w' (fun k => w.heap.size ≤ k) v
set_option maxHeartbeats 4000000 in
theorem copy_any (num : Int) (l : LT VT) (q : LT RT) (w : World) (S : Nat → Prop) (b : Nat) (K : Bk) (hI : BkI w b K) (hl : LT.In elCell w S l) (hq : LT.In elRec w S q) (sl : SzC l) (sq : SzR q) :
    Calls Try.prog 56 #[.pointer (some ⟨b, 3, none⟩), .agg #[.int .i64 num, .slice l.p l.n l.c], .slice q.p q.n q.c] w fun e w' => ∃ K', e = .returned (.bool (!K.cp)) ∧ CopyQ num l q w b K w' K' := by
  have hB : Below w.heap.size w (w.alloc (.cells #[.int .i64 num, .slice l.p l.n l.c] 40)) := (Below.refl _ _).alloc (Nat.le_refl _) _
  have HB := hid hB
  have HI := hid hI
  have c8 := hI.box.cell 8
  have hbl := hI.box.lt
  simp [Bk.arr] at c8
  rcases hc : K.cp with _ | _
  rotate_left
  · rw [hc] at c8
    clear hI hl hq sl sq hB
    go_enter Try.func56, Try.ntmps56
    go_wp2
    refine bodyPost_ret (v := .bool false) (by simp [results, Try.results56, go_sem]) rfl ⟨K, rfl, SetLog.same HI.out HB.out, fun _ => rfl, fun h => by rw [hc] at h; cases h⟩
  · rw [hc] at c8
    have HS : Hid (∀ V, Below w.heap.size w V → Calls Try.prog 71 #[.agg #[.int .i64 num, .slice l.p l.n l.c]] V fun e w' => ∃ u : LT VT, e = .returned (.agg #[.int .i64 num, .slice u.p u.n u.c]) ∧ u.n = l.n ∧ (∀ j, j < l.n → VT.Alike (l.item j) (u.item j)) ∧ LT.In elCell w' (fun b => V.heap.size ≤ b) u ∧ Below V.heap.size V w') := fun V hV =>
      freshS num l V (fun k => S k ∧ k < w.heap.size) ((hl.mono fun k hk hl => ⟨hk, hl⟩).kept hV.size (fun k hk _ => hV.block k hk.2)) sl.n sl.item
    have HR : Hid (∀ V, Below w.heap.size w V → Calls Try.prog 55 #[.slice q.p q.n q.c] V fun e w' => ∃ u : LT RT, e = .returned (.slice u.p u.n u.c) ∧ u.n = q.n ∧ (∀ j, j < q.n → RT.Alike (q.item j) (u.item j)) ∧ LT.In elRec w' (fun b => V.heap.size ≤ b) u ∧ Below V.heap.size V w') := fun V hV =>
      freshRs q V (fun k => S k ∧ k < w.heap.size) ((hq.mono fun k hk hl => ⟨hk, hl⟩).kept hV.size (fun k hk _ => hV.block k hk.2)) sq.n sq.item
    clear hI hl hq sl sq hB
    go_enter Try.func56, Try.ntmps56
    go_wp2_with fail
    refine (HS.out _ HB.out).mono ?_
    rintro e w1 ⟨u, rfl, un, ual, uin, ub⟩
    have hb1 : Below w.heap.size w w1 := HB.out.trans (ub.mono (by simp))
    have HU := hid (And.intro (LT.Alk.mk (R := VT.Alike) un ual) (And.intro (uin.mono (S' := fun k => w.heap.size ≤ k) (fun k hk _ => Nat.le_trans (by simp) hk)) hb1))
    clear un ual uin ub hb1 HS
    go_wp2_with fail
    refine (HR.out _ HU.out.2.2).mono ?_
    rintro e w2 ⟨v, rfl, vn, val, vin, vb⟩
    have hb2 : Below w.heap.size w w2 := HU.out.2.2.trans (vb.mono HU.out.2.2.size)
    have HV := hid (And.intro (LT.Alk.mk (R := RT.Alike) vn val) (And.intro (vin.mono (S' := fun k => w.heap.size ≤ k) (fun k hk _ => Nat.le_trans HU.out.2.2.size hk)) hb2))
    have HU2 := hid (HU.out.2.1.below vb)
    have hI2 := HI.out.below hb2
    have HI2 := hid hI2
    have y8 := hI2.box.cell 8
    have y9 := hI2.box.cell 9
    have y10 := hI2.box.cell 10
    have y11 := hI2.box.cell 11
    have f8 := hI2.box.frozen 8
    have f9 := hI2.box.frozen 9
    have f10 := hI2.box.frozen 10
    have f11 := hI2.box.frozen 11
    have hbl2 := hI2.box.lt
    simp [Bk.arr] at y8 y9 y10 y11
    clear vn val vin vb hb2 HR hI2
    go_wp2
    have hset : But (fun x => x = b) w2 ((((w2.setCell ⟨b, 8, none⟩ (.bool true)).setCell ⟨b, 9, none⟩ (.int .i64 num)).setCell ⟨b, 10, none⟩ (.slice u.p u.n u.c)).setCell ⟨b, 11, none⟩ (.slice v.p v.n v.c)) := ((((But.one w2 b).setAt 8 _).setAt 9 _).setAt 10 _).setAt 11 _
    refine bodyPost_ret (v := .bool true) (by simp [results, Try.results56, go_sem]) rfl ⟨K.copied num u v, rfl, ?_, fun h => (by rw [hc] at h; cases h), fun _ => ⟨u, v, rfl, HU.out.1, HV.out.1, ?_, ?_⟩⟩
    · refine (SetLog.same HI.out HV.out.2.2).trans (HI2.out.chg rfl ?_ hset rfl rfl rfl HI2.out.n0 HI2.out.n1 HI2.out.s0)
      exact (((HI2.out.box.set 8 (.bool true)).set 9 (.int .i64 num)).set 10 (.slice u.p u.n u.c)).set 11 (.slice v.p v.n v.c)
    · exact (HU2.out).kept hset.size (fun k hk hl => hset.block k hl (fun e => by omega))
    · exact (HV.out.2.1).kept hset.size (fun k hk hl => hset.block k hl (fun e => by omega))
end Go.Proofs.Ytnbcidlmckmaaaa
