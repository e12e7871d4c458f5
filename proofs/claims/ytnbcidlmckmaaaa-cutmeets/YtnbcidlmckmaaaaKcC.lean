import Derived.Test.YtnbcidlmckmaaaaKcB
namespace Go.Proofs.Ytnbcidlmckmaaaa
open Go.RowKit
set_option maxRecDepth 8000
/-- one call of a script -/
structure OpT where
  kind : Int
  which : Int
  port : Int
  id : Int
  r : RT
  a : LT RT
  q : LT RT
  num : Int
  l : LT VT
def OpT.cells (o : OpT) : List Value := [.int .i64 o.kind, .int .i64 o.which, .int .i64 o.port, .int .i64 o.id, .string o.r.key, .int .i64 o.r.v.kind, .int .i64 o.r.v.int, .string o.r.v.text, .slice o.r.v.p o.r.v.n o.r.v.c, .slice o.r.p o.r.n o.r.c, .slice o.a.p o.a.n o.a.c, .slice o.q.p o.q.n o.q.c, .int .i64 o.num, .slice o.l.p o.l.n o.l.c]
structure OpT.In (w : World) (S : Nat → Prop) (o : OpT) : Prop where
  r : RT.In w S o.r
  a : LT.In elRec w S o.a
  q : LT.In elRec w S o.q
  l : LT.In elCell w S o.l
theorem OpT.In.kept {w w' : World} {S : Nat → Prop} {o : OpT} (h : OpT.In w S o) (hs : w.heap.size ≤ w'.heap.size) (hb : ∀ b, S b → b < w.heap.size → w'.heap[b]? = w.heap[b]?) : OpT.In w' S o := ⟨h.r.kept hs hb, h.a.kept hs hb, h.q.kept hs hb, h.l.kept hs hb⟩
theorem OpT.In.mono {w : World} {S S' : Nat → Prop} {o : OpT} (h : OpT.In w S o) (hb : ∀ b, S b → b < w.heap.size → S' b) : OpT.In w S' o := ⟨h.r.mono hb, h.a.mono hb, h.q.mono hb, h.l.mono hb⟩
def elOp : El OpT where
  ty := 42
  size := 14
  cells := OpT.cells
  len := fun _ => rfl
  one := fun x u hu => by
    simp only [OpT.cells, List.mem_cons, List.not_mem_nil, or_false] at hu
    rcases hu with rfl | rfl | rfl | rfl | rfl | rfl | rfl | rfl | rfl | rfl | rfl | rfl | rfl | rfl <;> rfl
  In := OpT.In
  kept := fun h hs hb => h.kept hs hb
  mono := fun h hb => h.mono hb
structure OpSz (o : OpT) : Prop where
  r : o.r.size ≤ 10000
  a : SzR o.a
  q : SzR o.q
  l : SzC o.l
set_option maxHeartbeats 4000000 in
/-- inside: are there few parts? -/
theorem inside_any (s : LT OpT) (w : World) (hin : LT.In elOp w (fun b => b < w.heap.size) s) : Calls Try.prog 13 #[.slice s.p s.n s.c] w fun e w' => Below w.heap.size w w' ∧ ∃ r, e = .returned (.bool r) ∧ (r = true → ∀ j, j < s.n → OpSz (s.item j)) := by
  have HI := hid hin
  have hnn := hin.nn
  have HN := hid (szNew_any w)
  clear hin
  go_enter Try.func13, Try.ntmps13
  go_wp2_with fail
  refine HN.out.mono ?_
  rintro e w1 ⟨rfl, hw1⟩
  have hB1 : Below w.heap.size w w1 := by rw [hw1]; exact (Below.refl _ _).alloc (Nat.le_refl _) _
  have hX1 : Box w1 w.heap.size #[.int .i64 10000] 103 := by rw [hw1]; exact Box.new _ _ _
  have H1 := hid (And.intro hB1 hX1)
  clear hB1 hX1 hw1 HN
  go_wp2_with fail
  go_loopw [4] (fun x wr => ∃ (k : Nat) (m : Int), k ≤ s.n ∧ x = .int .i64 (k : Int) ∧ Box wr w.heap.size #[.int .i64 m] 103 ∧ (m ≤ 10000 ∧ -1000000000000000 ≤ m) ∧ (0 ≤ m → ∀ j, j < k → OpSz (s.item j)) ∧ Below w.heap.size w wr) (fun x _ => s.n - (intOf x).toNat)
  case atStart => exact ⟨0, 10000, Nat.zero_le _, rfl, H1.out.2, ⟨Int.le_refl _, by decide⟩, fun _ j hj => absurd hj (by omega), H1.out.1⟩
  case round =>
    obtain ⟨k, m, hk, rfl, hbm, hm0, hok, hbel⟩ := hrel
    obtain ⟨hm1, hm2⟩ := hm0
    have HO := hid (szOk_any wr w.heap.size m hbm)
    have HM := hid (And.intro hbm (And.intro hok hbel))
    have hbl := hbm.lt
    clear hbm hok hbel H1
    by_cases hlt : k < s.n
    · have hlt' : (k : Int) < (s.n : Int) := by omega
      by_cases hm : 0 ≤ m
      · have hd : decide (0 ≤ m) = true := decide_eq_true hm
        rw [hd] at HO
        obtain ⟨bb, o, hp, hSb, hbb, hat⟩ := HI.out.at_ (by omega)
        rw [hp]
        have hne : bb ≠ w.heap.size := by omega
        have hcell : ∀ r u, (elOp.cells (s.item k))[r]? = some u → wr.cell? ⟨bb, o + k * 14 + r, none⟩ = some u := fun r u hu => (World.cell?_of_block (a := ⟨bb, o + k * 14 + r, none⟩) (HM.out.2.2.block bb hbb)).trans (hat k hlt r u hu)
        have c0 : wr.cell? ⟨bb, o + k * 14, none⟩ = some (.int .i64 (s.item k).kind) := hcell 0 _ rfl
        have c1 : wr.cell? ⟨bb, o + k * 14 + 1, none⟩ = some (.int .i64 (s.item k).which) := hcell 1 _ rfl
        have c2 : wr.cell? ⟨bb, o + k * 14 + 2, none⟩ = some (.int .i64 (s.item k).port) := hcell 2 _ rfl
        have c3 : wr.cell? ⟨bb, o + k * 14 + 3, none⟩ = some (.int .i64 (s.item k).id) := hcell 3 _ rfl
        have c4 : wr.cell? ⟨bb, o + k * 14 + 4, none⟩ = some (.string (s.item k).r.key) := hcell 4 _ rfl
        have c5 : wr.cell? ⟨bb, o + k * 14 + 5, none⟩ = some (.int .i64 (s.item k).r.v.kind) := hcell 5 _ rfl
        have c6 : wr.cell? ⟨bb, o + k * 14 + 6, none⟩ = some (.int .i64 (s.item k).r.v.int) := hcell 6 _ rfl
        have c7 : wr.cell? ⟨bb, o + k * 14 + 7, none⟩ = some (.string (s.item k).r.v.text) := hcell 7 _ rfl
        have c8 : wr.cell? ⟨bb, o + k * 14 + 8, none⟩ = some (.slice (s.item k).r.v.p (s.item k).r.v.n (s.item k).r.v.c) := hcell 8 _ rfl
        have c9 : wr.cell? ⟨bb, o + k * 14 + 9, none⟩ = some (.slice (s.item k).r.p (s.item k).r.n (s.item k).r.c) := hcell 9 _ rfl
        have c10 : wr.cell? ⟨bb, o + k * 14 + 10, none⟩ = some (.slice (s.item k).a.p (s.item k).a.n (s.item k).a.c) := hcell 10 _ rfl
        have c11 : wr.cell? ⟨bb, o + k * 14 + 11, none⟩ = some (.slice (s.item k).q.p (s.item k).q.n (s.item k).q.c) := hcell 11 _ rfl
        have c12 : wr.cell? ⟨bb, o + k * 14 + 12, none⟩ = some (.int .i64 (s.item k).num) := hcell 12 _ rfl
        have c13 : wr.cell? ⟨bb, o + k * 14 + 13, none⟩ = some (.slice (s.item k).l.p (s.item k).l.n (s.item k).l.c) := hcell 13 _ rfl
        have HIn : Hid (∀ V, Below w.heap.size w V → OpT.In V (fun b => b < w.heap.size) (s.item k)) := fun V hV => (show OpT.In w (fun b => b < w.heap.size) (s.item k) from HI.out.each k hlt).kept hV.size (fun b hb _ => hV.block b hb)
        clear hcell hat
        go_wp2_with (go_at_call 29; refine HO.out.mono ?_; rintro e w2 ⟨rfl, rfl⟩)
        have hB2 : Below w.heap.size w (w2.alloc (.cells #[.int .i64 (s.item k).kind, .int .i64 (s.item k).which, .int .i64 (s.item k).port, .int .i64 (s.item k).id, .string (s.item k).r.key, .int .i64 (s.item k).r.v.kind, .int .i64 (s.item k).r.v.int, .string (s.item k).r.v.text, .slice (s.item k).r.v.p (s.item k).r.v.n (s.item k).r.v.c, .slice (s.item k).r.p (s.item k).r.n (s.item k).r.c, .slice (s.item k).a.p (s.item k).a.n (s.item k).a.c, .slice (s.item k).q.p (s.item k).q.n (s.item k).q.c, .int .i64 (s.item k).num, .slice (s.item k).l.p (s.item k).l.n (s.item k).l.c] 42)) := HM.out.2.2.alloc HM.out.2.2.size _
        have hX2 := Box.new w2 #[.int .i64 (s.item k).kind, .int .i64 (s.item k).which, .int .i64 (s.item k).port, .int .i64 (s.item k).id, .string (s.item k).r.key, .int .i64 (s.item k).r.v.kind, .int .i64 (s.item k).r.v.int, .string (s.item k).r.v.text, .slice (s.item k).r.v.p (s.item k).r.v.n (s.item k).r.v.c, .slice (s.item k).r.p (s.item k).r.n (s.item k).r.c, .slice (s.item k).a.p (s.item k).a.n (s.item k).a.c, .slice (s.item k).q.p (s.item k).q.n (s.item k).q.c, .int .i64 (s.item k).num, .slice (s.item k).l.p (s.item k).l.n (s.item k).l.c] 42
        have hC2 := HM.out.1.below ((Below.refl w2.heap.size w2).alloc (Nat.le_refl _) (.cells #[.int .i64 (s.item k).kind, .int .i64 (s.item k).which, .int .i64 (s.item k).port, .int .i64 (s.item k).id, .string (s.item k).r.key, .int .i64 (s.item k).r.v.kind, .int .i64 (s.item k).r.v.int, .string (s.item k).r.v.text, .slice (s.item k).r.v.p (s.item k).r.v.n (s.item k).r.v.c, .slice (s.item k).r.p (s.item k).r.n (s.item k).r.c, .slice (s.item k).a.p (s.item k).a.n (s.item k).a.c, .slice (s.item k).q.p (s.item k).q.n (s.item k).q.c, .int .i64 (s.item k).num, .slice (s.item k).l.p (s.item k).l.n (s.item k).l.c] 42))
        refine (szRecord_all (s.item k).r _ _ w.heap.size m (HIn.out _ hB2).r (Nat.lt_irrefl _) hC2 hm2 hm1).mono ?_
        rintro e w3 ⟨rfl, m3, hb3, ht3, hk3⟩
        have hB3 : Below w.heap.size w w3 := hB2.trans (hk3.below hB2.size (fun x hx e => by omega))
        have hX3 := hX2.but hk3 (by omega)
        have HT3 := hid ht3
        have y13 := hX3.cell 13
        simp at y13
        have H3 := hid (And.intro hB3 (And.intro hX3 hb3))
        have hl3 := hX3.lt
        have l3 := ht3.low
        have e3 := ht3.le
        clear hB2 hX2 hC2 hb3 ht3 hk3 hB3 hX3 c0 c1 c2 c3 c4 c5 c6 c7 c8 c9 c10 c11 c12 c13
        go_wp2_with fail
        refine (szCells_all (s.item k).l w3 _ w.heap.size m3 (HIn.out _ H3.out.1).l (Nat.lt_irrefl _) H3.out.2.2 l3 (by omega)).mono ?_
        rintro e w4 ⟨rfl, m4, hb4, ht4, hk4⟩
        have hB4 : Below w.heap.size w w4 := H3.out.1.trans (hk4.below H3.out.1.size (fun x hx e => by omega))
        have hX4 := H3.out.2.1.but hk4 (by omega)
        have HT4 := hid ht4
        have y10 := hX4.cell 10
        simp at y10
        have H4 := hid (And.intro hB4 (And.intro hX4 hb4))
        have hl4 := hX4.lt
        have l4 := ht4.low
        have e4 := ht4.le
        clear hb4 ht4 hk4 hB4 hX4 H3 y13
        go_wp2_with fail
        refine (szRecords_all (s.item k).a w4 _ w.heap.size m4 (HIn.out _ H4.out.1).a (Nat.lt_irrefl _) H4.out.2.2 l4 (by omega)).mono ?_
        rintro e w5 ⟨rfl, m5, hb5, ht5, hk5⟩
        have hB5 : Below w.heap.size w w5 := H4.out.1.trans (hk5.below H4.out.1.size (fun x hx e => by omega))
        have hX5 := H4.out.2.1.but hk5 (by omega)
        have HT5 := hid ht5
        have y11 := hX5.cell 11
        simp at y11
        have H5 := hid (And.intro hB5 (And.intro hX5 hb5))
        have hl5 := hX5.lt
        have l5 := ht5.low
        have e5 := ht5.le
        clear hb5 ht5 hk5 hB5 hX5 H4 y10
        go_wp2_with fail
        refine (szRecords_all (s.item k).q w5 _ w.heap.size m5 (HIn.out _ H5.out.1).q (Nat.lt_irrefl _) H5.out.2.2 l5 (by omega)).mono ?_
        rintro e w6 ⟨rfl, m6, hb6, ht6, hk6⟩
        have hB6 : Below w.heap.size w w6 := H5.out.1.trans (hk6.below H5.out.1.size (fun x hx e => by omega))
        have HT6 := hid ht6
        have H6 := hid (And.intro hB6 hb6)
        have l6 := ht6.low
        have e6 := ht6.le
        clear hb6 ht6 hk6 hB6 H5 y11
        go_wp2
        go_roundw
        case rel =>
          refine ⟨k + 1, m6, by omega, by go_num, H6.out.2, ⟨by omega, l6⟩, fun h0 j hj => ?_, H6.out.1⟩
          have a6 := HT6.out.ok h0
          have a5 := HT5.out.ok a6.1
          have a4 := HT4.out.ok a5.1
          have a3 := HT3.out.ok a4.1
          rcases Nat.lt_or_ge j k with hj2 | hj2
          · exact HM.out.2.1 (by omega) j hj2
          · obtain rfl : j = k := by omega
            refine ⟨by unfold RT.size; omega, LT.sumR_sz (by omega), LT.sumR_sz (by omega), LT.totC_sz (by omega)⟩
        case measure => simp [intOf]; omega
      · have hd : decide (0 ≤ m) = false := decide_eq_false hm
        rw [hd] at HO
        go_wp2_with (go_at_call 29; refine HO.out.mono ?_; rintro e w2 ⟨rfl, rfl⟩)
        refine bodyPost_ret (v := .bool false) (by simp [results, Try.results13, go_sem]) rfl ⟨HM.out.2.2, false, rfl, fun h => by cases h⟩
    · obtain rfl : k = s.n := by omega
      go_wp2_with (go_at_call 29; refine HO.out.mono ?_; rintro e w2 ⟨rfl, rfl⟩)
      refine bodyPost_ret (v := .bool (decide (0 ≤ m))) (by simp [results, Try.results13, go_sem]) rfl ⟨HM.out.2.2, _, rfl, fun h => HM.out.2.1 (of_decide_eq_true h)⟩
end Go.Proofs.Ytnbcidlmckmaaaa
