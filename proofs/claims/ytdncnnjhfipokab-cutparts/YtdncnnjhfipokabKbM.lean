import Derived.Test.YtdncnnjhfipokabKbF
import Derived.Test.YtdncnnjhfipokabKbG
namespace Go.Proofs.Ytdncnnjhfipokab
open Go.RowKit
set_option maxRecDepth 8000
def nilL {α : Type} (f : Nat → α) : LT α := ⟨none, 0, 0, f⟩
/-- the book's own cells changed, its logs are empty now -/
theorem BkI.empty {w w2 : World} {b : Nat} {K K' : Bk} (h : BkI w b K) (hlg : ∀ i, i < 4 → (K'.lg i).p = none ∧ (K'.lg i).n = 0 ∧ (K'.lg i).c = 0) (hbox : Box w2 b K'.arr 83) (hbut : But (fun k => k = b) w w2)
    (hm : K'.mode = K.mode) (hp : K'.ports = K.ports) (hk : K'.back = K.back) (hn0 : 0 ≤ K'.now) (hn1 : K'.now ≤ 9999) (hs : ∀ i, i < 4 → K'.st i = 0 ∨ K'.st i = 1 ∨ K'.st i = 2) : SetLog w b K w2 K' := by
  have hlv : ∀ i, i < 4 → K'.lv i = .slice none 0 0 := fun i hi => by unfold Bk.lv; rw [(hlg i hi).1, (hlg i hi).2.1, (hlg i hi).2.2]
  have hob : ∀ i, i < 4 → ∀ k, (K'.lv i).ownBlock ≠ some k := fun i hi k => by rw [hlv i hi]; intro e; cases e
  refine ⟨⟨hbox, fun i hi => ?_, fun i hi => hob i hi b, fun i j hi hj hij k hk => absurd hk (hob i hi k), ?_, ?_, ?_, ?_, ?_, ?_, hn0, hn1, hs⟩, ?_, fun k hk => ?_⟩
  · rw [hlv i hi, (hlg i hi).2.1]
    have : rowsR (K'.lg i) = [] := by unfold rowsR; rw [(hlg i hi).2.1]; rfl
    rw [this]
    exact World.ownsRow_nil _ _ _ _
  · rw [hm]; exact h.m0
  · rw [hm]; exact h.m1
  · rw [hp]; exact h.p0
  · rw [hp]; exact h.p1
  · rw [hk]; exact h.b0
  · rw [hk, hp]; exact h.b1
  · exact hbut.mono fun k _ e => .inl e
  · rcases hk with rfl | ⟨i, hi, e⟩
    · exact .inl (.inl rfl)
    · exact absurd e (hob i hi k)
def Bk.begin (K : Bk) (id : Int) : Bk := { K with now := id, st := fun _ => 0, cp := false, num := 0, cl := nilL K.cl.item, pd := nilL K.pd.item, lg := fun i => nilL (K.lg i).item }
def Bk.base (K : Bk) (id : Int) : Bk := if K.now < id then K.begin id else K
def Bk.marks (K : Bk) (x id : Int) : Bool := (K.refE x id == 0) && (decide (K.now < id) || ((id == K.now) && (K.st x.toNat == 0)))
theorem begin_any (id : Int) (w : World) (b : Nat) (K : Bk) (hI : BkI w b K) (h0 : 1 ≤ id) (h1 : id ≤ 9999) : SetLog w b K ((((((((((((((w.setCell ⟨b, 3, none⟩ (.int .i64 id)).setCell ⟨b, 4, none⟩ (.int .i64 0)).setCell ⟨b, 5, none⟩ (.int .i64 0)).setCell ⟨b, 6, none⟩ (.int .i64 0)).setCell ⟨b, 7, none⟩ (.int .i64 0)).setCell ⟨b, 8, none⟩ (.bool false)).setCell ⟨b, 9, none⟩ (.int .i64 0)).setCell ⟨b, 10, none⟩ (.slice none 0 0)).setCell ⟨b, 11, none⟩ (.slice none 0 0)).setCell ⟨b, 12, none⟩ (.slice none 0 0)).setCell ⟨b, 13, none⟩ (.slice none 0 0)).setCell ⟨b, 14, none⟩ (.slice none 0 0)).setCell ⟨b, 15, none⟩ (.slice none 0 0))) (K.begin id) := by
  refine hI.empty (fun i _ => ⟨rfl, rfl, rfl⟩) ?_ ((((((((((((((But.one w b).setAt 3 (.int .i64 id)).setAt 4 (.int .i64 0)).setAt 5 (.int .i64 0)).setAt 6 (.int .i64 0)).setAt 7 (.int .i64 0)).setAt 8 (.bool false)).setAt 9 (.int .i64 0)).setAt 10 (.slice none 0 0)).setAt 11 (.slice none 0 0)).setAt 12 (.slice none 0 0)).setAt 13 (.slice none 0 0)).setAt 14 (.slice none 0 0)).setAt 15 (.slice none 0 0)) rfl rfl rfl (by show 0 ≤ id; omega) h1 (fun _ _ => .inl rfl)
  have h := (((((((((((((hI.box).set 3 (.int .i64 id)).set 4 (.int .i64 0)).set 5 (.int .i64 0)).set 6 (.int .i64 0)).set 7 (.int .i64 0)).set 8 (.bool false)).set 9 (.int .i64 0)).set 10 (.slice none 0 0)).set 11 (.slice none 0 0)).set 12 (.slice none 0 0)).set 13 (.slice none 0 0)).set 14 (.slice none 0 0)).set 15 (.slice none 0 0)
  have e : (((((((((((((K.arr).setIfInBounds 3 (.int .i64 id)).setIfInBounds 4 (.int .i64 0)).setIfInBounds 5 (.int .i64 0)).setIfInBounds 6 (.int .i64 0)).setIfInBounds 7 (.int .i64 0)).setIfInBounds 8 (.bool false)).setIfInBounds 9 (.int .i64 0)).setIfInBounds 10 (.slice none 0 0)).setIfInBounds 11 (.slice none 0 0)).setIfInBounds 12 (.slice none 0 0)).setIfInBounds 13 (.slice none 0 0)).setIfInBounds 14 (.slice none 0 0)).setIfInBounds 15 (.slice none 0 0) = (K.begin id).arr := by simp [Bk.arr, Bk.begin, nilL]
  rw [e] at h
  exact h
/-- what Mark answers, and what the book holds behind it -/
structure MarkQ (x id : Int) (a : LT RT) (num : Int) (l : LT VT) (q : LT RT) (w : World) (b : Nat) (K : Bk) (w' : World) (K' : Bk) (r : Bool) : Prop where
  s : SetLog w b K w' K'
  n : K.marks x id = false → K' = K ∧ r = false
  y : K.marks x id = true → ∃ w1, SetLog w b K w1 (K.base id) ∧ r = (K.base id).shutR x.toNat ∧ ShutQ x.toNat a num l q w1 b (K.base id) w' K'
theorem shut_any (i : Nat) (hi : i < 4) (a : LT RT) (num : Int) (l : LT VT) (q : LT RT) (w : World) (S : Nat → Prop) (b : Nat) (K : Bk) (hI : BkI w b K) (hS : ∀ k, S k → ¬ K.C b k) (hl : LT.In elCell w S l) (hq : LT.In elRec w S q) (sl : SzC l) (sq : SzR q) (ha : LT.In elRec w S a) (sa : SzR a) (hn : (K.lg i).n ≤ 1000000000) :
    Calls Try.prog 45 #[.pointer (some ⟨b, 0, none⟩), .int .i64 (i : Int), .slice a.p a.n a.c, .agg #[.int .i64 num, .slice l.p l.n l.c], .slice q.p q.n q.c] w fun e w' => ∃ K', e = .returned (.bool (K.shutR i)) ∧ ShutQ i a num l q w b K w' K' := by
  have h0 := hI.m0
  have h1 := hI.m1
  rcases (by omega : K.mode = 1 ∨ K.mode = 2 ∨ K.mode = 3) with h | h | h
  · exact shut1_any i hi a num l q w S b K hI hS hl hq sl sq h
  · exact shut2_any i hi a num l q w S b K hI hS hl hq sl sq h
  · exact shut3_any i hi a num l q w S b K hI hS hl hq sl sq ha sa hn h
set_option maxHeartbeats 8000000 in
theorem mark_any (x id : Int) (a : LT RT) (num : Int) (l : LT VT) (q : LT RT) (w : World) (S : Nat → Prop) (b : Nat) (K : Bk) (hI : BkI w b K) (hS : ∀ k, S k → ¬ K.C b k) (hl : LT.In elCell w S l) (hq : LT.In elRec w S q) (sl : SzC l) (sq : SzR q) (ha : LT.In elRec w S a) (sa : SzR a) (hn : ∀ i, i < 4 → (K.lg i).n ≤ 1000000000) :
    Calls Try.prog 23 #[.pointer (some ⟨b, 0, none⟩), .int .i64 x, .int .i64 id, .slice a.p a.n a.c, .agg #[.int .i64 num, .slice l.p l.n l.c], .slice q.p q.n q.c] w fun e w' => ∃ K' r, e = .returned (.tuple #[.bool r, .int .i64 (K.refE x id)]) ∧ MarkQ x id a num l q w b K w' K' r := by
  obtain ⟨W, hW⟩ : ∃ W, W = w.alloc (.cells #[.int .i64 num, .slice l.p l.n l.c] 42) := ⟨_, rfl⟩
  have hB : Below w.heap.size w W := by rw [hW]; exact (Below.refl _ _).alloc (Nat.le_refl _) _
  have hX : Box W w.heap.size #[.int .i64 num, .slice l.p l.n l.c] 42 := by rw [hW]; exact Box.new _ _ _
  have HB := hid hB
  have HI := hid hI
  have hIW := hI.below hB
  have HR := hid (refusal_any x id W b K hIW)
  have HIW := hid hIW
  have HS := hid hS
  have HL := hid (And.intro hl (And.intro hq (And.intro sl (And.intro sq (And.intro ha sa)))))
  have HN := hid hn
  have c3 := hIW.box.cell 3
  have hbl := hIW.box.lt
  have s0 := hX.cell 0
  have s1 := hX.cell 1
  simp [Bk.arr] at c3 s0 s1
  have hxb : w.heap.size ≠ b := by have := hI.box.lt; omega
  have hxb' : b ≠ w.heap.size := fun e => hxb e.symm
  clear hI hS hl hq sl sq ha sa hB hX hn
  by_cases hr : K.refE x id = 0
  rotate_left
  · have hr' : (K.refE x id != 0) = true := by simp [hr]
    have hmk : K.marks x id = false := by simp [Bk.marks, hr]
    clear hIW
    go_enter Try.func23, Try.ntmps23
    go_wp2_with fail
    rw [← hW]
    clear hW
    refine HR.out.mono ?_
    rintro e w1 ⟨rfl, rfl⟩
    go_wp2
    refine bodyPost_ret (v := .tuple #[.bool false, .int .i64 (K.refE x id)]) (by simp [results, Try.results23, go_sem]) rfl ⟨K, false, rfl, SetLog.same HI.out HB.out, fun _ => ⟨rfl, rfl⟩, fun h => by rw [hmk] at h; cases h⟩
  have hh : K.has x = true := by
    rcases h : K.has x with _ | _
    · rw [Bk.refE, if_pos h] at hr; cases hr
    · rfl
  have hid0 : 1 ≤ id ∧ id ≤ 9999 := by
    rw [Bk.refE, if_neg (by rw [hh]; decide)] at hr
    by_cases h : id < 1 ∨ 9999 < id
    · rw [if_pos h] at hr; cases hr
    · omega
  have hx : 0 ≤ x ∧ x < K.ports := by simpa [Bk.has] using hh
  have hp := hIW.p1
  obtain ⟨i, rfl⟩ : ∃ i : Nat, x = (i : Int) := ⟨x.toNat, by omega⟩
  have hi : i < 4 := by omega
  have hi4 : (i : Int) < 4 := by omega
  have hti : ((i : Int)).toNat = i := by omega
  have cs := hIW.cs hi
  by_cases hgt : K.now < id
  · have hmk : K.marks i id = true := by simp [Bk.marks, hr, hgt]
    have hbs : K.base id = K.begin id := by rw [Bk.base, if_pos hgt]
    have hI := hIW
    have c3 := hI.box.cell 3
    have f3 := hI.box.frozen 3
    have c4 := hI.box.cell 4
    have f4 := hI.box.frozen 4
    have c5 := hI.box.cell 5
    have f5 := hI.box.frozen 5
    have c6 := hI.box.cell 6
    have f6 := hI.box.frozen 6
    have c7 := hI.box.cell 7
    have f7 := hI.box.frozen 7
    have c8 := hI.box.cell 8
    have f8 := hI.box.frozen 8
    have c9 := hI.box.cell 9
    have f9 := hI.box.frozen 9
    have c10 := hI.box.cell 10
    have f10 := hI.box.frozen 10
    have c11 := hI.box.cell 11
    have f11 := hI.box.frozen 11
    have c12 := hI.box.cell 12
    have f12 := hI.box.frozen 12
    have c13 := hI.box.cell 13
    have f13 := hI.box.frozen 13
    have c14 := hI.box.cell 14
    have f14 := hI.box.frozen 14
    have c15 := hI.box.cell 15
    have f15 := hI.box.frozen 15
    simp [Bk.arr] at c3 c4 c5 c6 c7 c8 c9 c10 c11 c12 c13 c14 c15
    clear hI hIW
    go_enter Try.func23, Try.ntmps23
    go_wp2_with fail
    rw [← hW]
    clear hW
    refine HR.out.mono ?_
    rintro e w1 ⟨rfl, rfl⟩
    rw [hr]
    go_wp2_with fail
    obtain ⟨W2, hW2⟩ : ∃ W2, W2 = (((((((((((((w1.setCell ⟨b, 3, none⟩ (.int .i64 id)).setCell ⟨b, 4, none⟩ (.int .i64 0)).setCell ⟨b, 5, none⟩ (.int .i64 0)).setCell ⟨b, 6, none⟩ (.int .i64 0)).setCell ⟨b, 7, none⟩ (.int .i64 0)).setCell ⟨b, 8, none⟩ (.bool false)).setCell ⟨b, 9, none⟩ (.int .i64 0)).setCell ⟨b, 10, none⟩ (.slice none 0 0)).setCell ⟨b, 11, none⟩ (.slice none 0 0)).setCell ⟨b, 12, none⟩ (.slice none 0 0)).setCell ⟨b, 13, none⟩ (.slice none 0 0)).setCell ⟨b, 14, none⟩ (.slice none 0 0)).setCell ⟨b, 15, none⟩ (.slice none 0 0)) := ⟨_, rfl⟩
    rw [← hW2]
    have HS2 : Hid (SetLog w b K W2 (K.begin id)) := by rw [hW2]; exact (SetLog.same HI.out HB.out).trans (begin_any id w1 b K HIW.out hid0.1 hid0.2)
    clear hW2 c3 f3 c4 f4 c5 f5 c6 f6 c7 f7 c8 f8 c9 f9 c10 f10 c11 f11 c12 f12 c13 f13 c14 f14 c15 f15 cs s0 s1
    have HC := hid (shut_any i hi a num l q W2 (fun k => S k ∧ k < w.heap.size) b (K.begin id) HS2.out.inv (fun k hk e => HS.out k hk.1 (by rcases HS2.out.cs k e with h | h; exact h; omega)) ((HL.out.1.mono fun k hk hl => ⟨hk, hl⟩).kept HS2.out.but.size (fun k hk _ => HS2.out.but.block k hk.2 (HS.out k hk.1))) ((HL.out.2.1.mono fun k hk hl => ⟨hk, hl⟩).kept HS2.out.but.size (fun k hk _ => HS2.out.but.block k hk.2 (HS.out k hk.1))) HL.out.2.2.1 HL.out.2.2.2.1 ((HL.out.2.2.2.2.1.mono fun k hk hl => ⟨hk, hl⟩).kept HS2.out.but.size (fun k hk _ => HS2.out.but.block k hk.2 (HS.out k hk.1))) HL.out.2.2.2.2.2 (by show 0 ≤ _; omega))
    refine HC.out.mono ?_
    rintro e w4 ⟨K4, rfl, h4⟩
    have H4 := hid h4
    clear h4 HC
    go_wp2
    refine bodyPost_ret (v := .tuple #[.bool ((K.begin id).shutR i), .int .i64 0]) (by simp [results, Try.results23, go_sem]) rfl ⟨K4, _, by rw [hr], HS2.out.trans H4.out.b.s, fun h => (by rw [hmk] at h; cases h), fun _ => ⟨W2, by rw [hbs]; exact HS2.out, by rw [hbs, hti], by rw [hbs, hti]; exact H4.out⟩⟩
  · have hbs : K.base id = K := by rw [Bk.base, if_neg hgt]
    by_cases heq : id = K.now ∧ K.st i = 0
    · obtain ⟨rfl, hst⟩ := heq
      have hmk : K.marks i K.now = true := by simp [Bk.marks, hr, hti, hst]
      rw [hst] at cs
      have HC := hid (shut_any i hi a num l q W (fun k => S k ∧ k < w.heap.size) b K hIW (fun k hk => HS.out k hk.1) ((HL.out.1.mono fun k hk hl => ⟨hk, hl⟩).kept HB.out.size (fun k hk _ => HB.out.block k hk.2)) ((HL.out.2.1.mono fun k hk hl => ⟨hk, hl⟩).kept HB.out.size (fun k hk _ => HB.out.block k hk.2)) HL.out.2.2.1 HL.out.2.2.2.1 ((HL.out.2.2.2.2.1.mono fun k hk hl => ⟨hk, hl⟩).kept HB.out.size (fun k hk _ => HB.out.block k hk.2)) HL.out.2.2.2.2.2 (HN.out i hi))
      clear hIW
      go_enter Try.func23, Try.ntmps23
      go_wp2_with fail
      rw [← hW]
      clear hW
      refine HR.out.mono ?_
      rintro e w1 ⟨rfl, rfl⟩
      rw [hr]
      go_wp2_with fail
      refine HC.out.mono ?_
      rintro e w4 ⟨K4, rfl, h4⟩
      have H4 := hid h4
      clear h4 HC
      go_wp2
      refine bodyPost_ret (v := .tuple #[.bool (K.shutR i), .int .i64 0]) (by simp [results, Try.results23, go_sem]) rfl ⟨K4, _, by rw [hr], (SetLog.same HI.out HB.out).trans H4.out.b.s, fun h => (by rw [hmk] at h; cases h), fun _ => ⟨w1, by rw [hbs]; exact SetLog.same HI.out HB.out, by rw [hbs, hti], by rw [hbs, hti]; exact H4.out⟩⟩
    · have hmk : K.marks i id = false := by
        simp only [Bk.marks, hr, hti]
        simp only [beq_self_eq_true, Bool.true_and, Bool.or_eq_false_iff, decide_eq_false_iff_not, Bool.and_eq_false_iff, beq_eq_false_iff_ne]
        refine ⟨hgt, ?_⟩
        by_cases h : id = K.now
        · exact .inr (fun e => heq ⟨h, e⟩)
        · exact .inl h
      have hgt' : ¬ K.now < id := hgt
      clear hIW
      by_cases h : id = K.now
      · have h1 : (id == K.now) = true := by simp [h]
        have h2 : (K.st i == 0) = false := by simp; exact fun e => heq ⟨h, e⟩
        clear h heq
        go_enter Try.func23, Try.ntmps23
        go_wp2_with fail
        rw [← hW]
        clear hW
        refine HR.out.mono ?_
        rintro e w1 ⟨rfl, rfl⟩
        rw [hr]
        go_wp2
        refine bodyPost_ret (v := .tuple #[.bool false, .int .i64 0]) (by simp [results, Try.results23, go_sem]) rfl ⟨K, false, by rw [hr], SetLog.same HI.out HB.out, fun _ => ⟨rfl, rfl⟩, fun h => by rw [hmk] at h; cases h⟩
      · have h1 : (id == K.now) = false := by simp [h]
        clear h heq
        go_enter Try.func23, Try.ntmps23
        go_wp2_with fail
        rw [← hW]
        clear hW
        refine HR.out.mono ?_
        rintro e w1 ⟨rfl, rfl⟩
        rw [hr]
        go_wp2
        refine bodyPost_ret (v := .tuple #[.bool false, .int .i64 0]) (by simp [results, Try.results23, go_sem]) rfl ⟨K, false, by rw [hr], SetLog.same HI.out HB.out, fun _ => ⟨rfl, rfl⟩, fun h => by rw [hmk] at h; cases h⟩
end Go.Proofs.Ytdncnnjhfipokab
