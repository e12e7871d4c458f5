import Derived.Test.YtdncnnjhfipokabPack13
namespace Go.Proofs.Ytdncnnjhfipokab
open Go.RowKit
set_option maxRecDepth 8000
def legalB (mode ports back : Int) : Bool := decide (1 ≤ mode ∧ mode ≤ 3 ∧ 1 ≤ ports ∧ ports ≤ 4 ∧ -1 ≤ back ∧ back < ports ∧ (1 < ports ∨ back ≠ 0))
def LegP (mode ports back : Int) (w : World) (e : Ending) (w' : World) : Prop := e = .returned (.bool (legalB mode ports back)) ∧ w' = w
def rt0 : RT := ⟨⟨#[]⟩, .nil, none, 0, 0, fun _ => 0⟩
def Bk.fresh (mode ports back : Int) : Bk := ⟨mode, ports, back, 0, fun _ => 0, false, 0, nilL (fun _ => .nil), nilL (fun _ => rt0), fun _ => nilL (fun _ => rt0)⟩
theorem new_inv (mode ports back : Int) (w : World) (h : legalB mode ports back = true) : BkI (w.alloc (.cells (Bk.fresh mode ports back).arr 83)) w.heap.size (Bk.fresh mode ports back) := by
  have h := of_decide_eq_true h
  refine ⟨Box.new _ _ _, fun i _ => World.ownsRow_nil _ _ _ _, fun i _ e => (by cases e), fun i j _ _ _ k hk => (by cases hk), h.1, h.2.1, h.2.2.1, h.2.2.2.1, h.2.2.2.2.1, h.2.2.2.2.2.1, Int.le_refl _, (by show (0 : Int) ≤ 9999; omega), fun _ _ => .inl rfl⟩
def NewP (mode ports back : Int) (w : World) (e : Ending) (w' : World) : Prop :=
    (legalB mode ports back = true → e = .returned (.tuple #[.pointer (some ⟨w.heap.size, 0, none⟩), .int .i64 0]) ∧ w' = w.alloc (.cells (Bk.fresh mode ports back).arr 83)) ∧
    (legalB mode ports back = false → w' = w ∧ ∃ k : Int, (k = 130 ∨ k = 131) ∧ e = .returned (.tuple #[.pointer none, .int .i64 k]))
set_option maxHeartbeats 4000000 in
theorem new_any (mode ports back : Int) (w : World) : Calls Try.prog 12 #[.int .i64 mode, .int .i64 ports, .int .i64 back] w fun e w' => NewP mode ports back w e w' := by
  by_cases m1 : 1 ≤ mode
  rotate_left
  · have hd : Hid (legalB mode ports back = false) := decide_eq_false (by omega)
    go_enter Try.func12, Try.ntmps12
    go_wp2
    refine bodyPost_ret (v := .tuple #[.pointer none, .int .i64 130]) (by simp [results, Try.results12, go_sem]) rfl ⟨fun h => (by rw [hd.out] at h; cases h), fun _ => ⟨rfl, 130, .inl rfl, rfl⟩⟩
  by_cases m2 : mode ≤ 3
  rotate_left
  · have hd : Hid (legalB mode ports back = false) := decide_eq_false (by omega)
    go_enter Try.func12, Try.ntmps12
    go_wp2
    refine bodyPost_ret (v := .tuple #[.pointer none, .int .i64 130]) (by simp [results, Try.results12, go_sem]) rfl ⟨fun h => (by rw [hd.out] at h; cases h), fun _ => ⟨rfl, 130, .inl rfl, rfl⟩⟩
  by_cases p1 : 1 ≤ ports
  rotate_left
  · have hd : Hid (legalB mode ports back = false) := decide_eq_false (by omega)
    go_enter Try.func12, Try.ntmps12
    go_wp2
    refine bodyPost_ret (v := .tuple #[.pointer none, .int .i64 131]) (by simp [results, Try.results12, go_sem]) rfl ⟨fun h => (by rw [hd.out] at h; cases h), fun _ => ⟨rfl, 131, .inr rfl, rfl⟩⟩
  by_cases p2 : ports ≤ 4
  rotate_left
  · have hd : Hid (legalB mode ports back = false) := decide_eq_false (by omega)
    go_enter Try.func12, Try.ntmps12
    go_wp2
    refine bodyPost_ret (v := .tuple #[.pointer none, .int .i64 131]) (by simp [results, Try.results12, go_sem]) rfl ⟨fun h => (by rw [hd.out] at h; cases h), fun _ => ⟨rfl, 131, .inr rfl, rfl⟩⟩
  by_cases b1 : -1 ≤ back
  rotate_left
  · have hd : Hid (legalB mode ports back = false) := decide_eq_false (by omega)
    go_enter Try.func12, Try.ntmps12
    go_wp2
    refine bodyPost_ret (v := .tuple #[.pointer none, .int .i64 131]) (by simp [results, Try.results12, go_sem]) rfl ⟨fun h => (by rw [hd.out] at h; cases h), fun _ => ⟨rfl, 131, .inr rfl, rfl⟩⟩
  by_cases b2 : back < ports
  rotate_left
  · have hd : Hid (legalB mode ports back = false) := decide_eq_false (by omega)
    go_enter Try.func12, Try.ntmps12
    go_wp2
    refine bodyPost_ret (v := .tuple #[.pointer none, .int .i64 131]) (by simp [results, Try.results12, go_sem]) rfl ⟨fun h => (by rw [hd.out] at h; cases h), fun _ => ⟨rfl, 131, .inr rfl, rfl⟩⟩
  by_cases c1 : 1 < ports
  · have hd : Hid (legalB mode ports back = true) := decide_eq_true (by omega)
    have hp0 : (ports == 1) = false := by simp; omega
    by_cases c3 : back = 0
    · subst c3
      have hd : Hid (legalB mode ports 0 = true) := hd
      go_enter Try.func12, Try.ntmps12
      go_wp2
      exact bodyPost_ret (v := .tuple #[.pointer (some ⟨w.heap.size, 0, none⟩), .int .i64 0]) (by simp [results, Try.results12, go_sem]) rfl ⟨fun _ => ⟨rfl, rfl⟩, fun h => by rw [hd.out] at h; cases h⟩
    · have hb0 : (back == 0) = false := by simp [c3]
      go_enter Try.func12, Try.ntmps12
      go_wp2
      exact bodyPost_ret (v := .tuple #[.pointer (some ⟨w.heap.size, 0, none⟩), .int .i64 0]) (by simp [results, Try.results12, go_sem]) rfl ⟨fun _ => ⟨rfl, rfl⟩, fun h => by rw [hd.out] at h; cases h⟩
  by_cases c2 : back = 0
  · subst c2
    have hd : Hid (legalB mode ports 0 = false) := decide_eq_false (by omega)
    have hb0 : ((0 : Int) == 0) = true := by rfl
    have hp0 : (ports == 1) = true := by simp; omega
    go_enter Try.func12, Try.ntmps12
    go_wp2
    refine bodyPost_ret (v := .tuple #[.pointer none, .int .i64 131]) (by simp [results, Try.results12, go_sem]) rfl ⟨fun h => (by rw [hd.out] at h; cases h), fun _ => ⟨rfl, 131, .inr rfl, rfl⟩⟩
  · have hd : Hid (legalB mode ports back = true) := decide_eq_true (by omega)
    have hb0 : (back == 0) = false := by simp [c2]
    go_enter Try.func12, Try.ntmps12
    go_wp2
    exact bodyPost_ret (v := .tuple #[.pointer (some ⟨w.heap.size, 0, none⟩), .int .i64 0]) (by simp [results, Try.results12, go_sem]) rfl ⟨fun _ => ⟨rfl, rfl⟩, fun h => by rw [hd.out] at h; cases h⟩
set_option maxHeartbeats 1000000 in
theorem num_any (k : Int) (w : World) : Calls Try.prog 13 #[.int .i64 k] w fun e w' => e = .returned (.int .i64 k) ∧ w' = w := by
  go_enter Try.func13, Try.ntmps13
  go_wp2
  exact bodyPost_ret (v := .int .i64 k) (by simp [results, Try.results13, go_sem]) rfl ⟨rfl, rfl⟩
end Go.Proofs.Ytdncnnjhfipokab

namespace Go.Proofs.Ytdncnnjhfipokab
open Go.RowKit
set_option maxRecDepth 8000
/-- one call of a script -/
structure OpT where
  kind : Int
  which : Int
  port : Int
  id : Int
  r : RT
  a : LT RT
  q : LT RT
  num : Int
  l : LT VT
def OpT.cells (o : OpT) : List Value := [.int .i64 o.kind, .int .i64 o.which, .int .i64 o.port, .int .i64 o.id, .string o.r.key, .int .i64 o.r.v.kind, .int .i64 o.r.v.int, .string o.r.v.text, .slice o.r.v.p o.r.v.n o.r.v.c, .slice o.r.p o.r.n o.r.c, .slice o.a.p o.a.n o.a.c, .slice o.q.p o.q.n o.q.c, .int .i64 o.num, .slice o.l.p o.l.n o.l.c]
structure OpT.In (w : World) (S : Nat → Prop) (o : OpT) : Prop where
  r : RT.In w S o.r
  a : LT.In elRec w S o.a
  q : LT.In elRec w S o.q
  l : LT.In elCell w S o.l
theorem OpT.In.kept {w w' : World} {S : Nat → Prop} {o : OpT} (h : OpT.In w S o) (hs : w.heap.size ≤ w'.heap.size) (hb : ∀ b, S b → b < w.heap.size → w'.heap[b]? = w.heap[b]?) : OpT.In w' S o := ⟨h.r.kept hs hb, h.a.kept hs hb, h.q.kept hs hb, h.l.kept hs hb⟩
theorem OpT.In.mono {w : World} {S S' : Nat → Prop} {o : OpT} (h : OpT.In w S o) (hb : ∀ b, S b → b < w.heap.size → S' b) : OpT.In w S' o := ⟨h.r.mono hb, h.a.mono hb, h.q.mono hb, h.l.mono hb⟩
def elOp : El OpT where
  ty := 44
  size := 14
  cells := OpT.cells
  len := fun _ => rfl
  one := fun x u hu => by
    simp only [OpT.cells, List.mem_cons, List.not_mem_nil, or_false] at hu
    rcases hu with rfl | rfl | rfl | rfl | rfl | rfl | rfl | rfl | rfl | rfl | rfl | rfl | rfl | rfl <;> rfl
  In := OpT.In
  kept := fun h hs hb => h.kept hs hb
  mono := fun h hb => h.mono hb
structure OpSz (o : OpT) : Prop where
  r : o.r.size ≤ 10000
  a : SzR o.a
  q : SzR o.q
  l : SzC o.l
set_option maxHeartbeats 4000000 in
/-- inside: are there few parts? -/
theorem inside_any (s : LT OpT) (w : World) (hin : LT.In elOp w (fun b => b < w.heap.size) s) : Calls Try.prog 9 #[.slice s.p s.n s.c] w fun e w' => Below w.heap.size w w' ∧ ∃ r, e = .returned (.bool r) ∧ (r = true → ∀ j, j < s.n → OpSz (s.item j)) := by
  have HI := hid hin
  have hnn := hin.nn
  have HN := hid (szNew_any w)
  clear hin
  go_enter Try.func9, Try.ntmps9
  go_wp2_with fail
  refine HN.out.mono ?_
  rintro e w1 ⟨rfl, hw1⟩
  have hB1 : Below w.heap.size w w1 := by rw [hw1]; exact (Below.refl _ _).alloc (Nat.le_refl _) _
  have hX1 : Box w1 w.heap.size #[.int .i64 10000] 85 := by rw [hw1]; exact Box.new _ _ _
  have H1 := hid (And.intro hB1 hX1)
  clear hB1 hX1 hw1 HN
  go_wp2_with fail
  go_loopw [4] (fun x wr => ∃ (k : Nat) (m : Int), k ≤ s.n ∧ x = .int .i64 (k : Int) ∧ Box wr w.heap.size #[.int .i64 m] 85 ∧ (m ≤ 10000 ∧ -1000000000000000 ≤ m) ∧ (0 ≤ m → ∀ j, j < k → OpSz (s.item j)) ∧ Below w.heap.size w wr) (fun x _ => s.n - (intOf x).toNat)
  case atStart => exact ⟨0, 10000, Nat.zero_le _, rfl, H1.out.2, ⟨Int.le_refl _, by decide⟩, fun _ j hj => absurd hj (by omega), H1.out.1⟩
  case round =>
    obtain ⟨k, m, hk, rfl, hbm, hm0, hok, hbel⟩ := hrel
    obtain ⟨hm1, hm2⟩ := hm0
    have HO := hid (szOk_any wr w.heap.size m hbm)
    have HM := hid (And.intro hbm (And.intro hok hbel))
    have hbl := hbm.lt
    clear hbm hok hbel H1
    by_cases hlt : k < s.n
    · have hlt' : (k : Int) < (s.n : Int) := by omega
      by_cases hm : 0 ≤ m
      · have hd : decide (0 ≤ m) = true := decide_eq_true hm
        rw [hd] at HO
        obtain ⟨bb, o, hp, hSb, hbb, hat⟩ := HI.out.at_ (by omega)
        rw [hp]
        have hne : bb ≠ w.heap.size := by omega
        have hcell : ∀ r u, (elOp.cells (s.item k))[r]? = some u → wr.cell? ⟨bb, o + k * 14 + r, none⟩ = some u := fun r u hu => (World.cell?_of_block (a := ⟨bb, o + k * 14 + r, none⟩) (HM.out.2.2.block bb hbb)).trans (hat k hlt r u hu)
        have c0 : wr.cell? ⟨bb, o + k * 14, none⟩ = some (.int .i64 (s.item k).kind) := hcell 0 _ rfl
        have c1 : wr.cell? ⟨bb, o + k * 14 + 1, none⟩ = some (.int .i64 (s.item k).which) := hcell 1 _ rfl
        have c2 : wr.cell? ⟨bb, o + k * 14 + 2, none⟩ = some (.int .i64 (s.item k).port) := hcell 2 _ rfl
        have c3 : wr.cell? ⟨bb, o + k * 14 + 3, none⟩ = some (.int .i64 (s.item k).id) := hcell 3 _ rfl
        have c4 : wr.cell? ⟨bb, o + k * 14 + 4, none⟩ = some (.string (s.item k).r.key) := hcell 4 _ rfl
        have c5 : wr.cell? ⟨bb, o + k * 14 + 5, none⟩ = some (.int .i64 (s.item k).r.v.kind) := hcell 5 _ rfl
        have c6 : wr.cell? ⟨bb, o + k * 14 + 6, none⟩ = some (.int .i64 (s.item k).r.v.int) := hcell 6 _ rfl
        have c7 : wr.cell? ⟨bb, o + k * 14 + 7, none⟩ = some (.string (s.item k).r.v.text) := hcell 7 _ rfl
        have c8 : wr.cell? ⟨bb, o + k * 14 + 8, none⟩ = some (.slice (s.item k).r.v.p (s.item k).r.v.n (s.item k).r.v.c) := hcell 8 _ rfl
        have c9 : wr.cell? ⟨bb, o + k * 14 + 9, none⟩ = some (.slice (s.item k).r.p (s.item k).r.n (s.item k).r.c) := hcell 9 _ rfl
        have c10 : wr.cell? ⟨bb, o + k * 14 + 10, none⟩ = some (.slice (s.item k).a.p (s.item k).a.n (s.item k).a.c) := hcell 10 _ rfl
        have c11 : wr.cell? ⟨bb, o + k * 14 + 11, none⟩ = some (.slice (s.item k).q.p (s.item k).q.n (s.item k).q.c) := hcell 11 _ rfl
        have c12 : wr.cell? ⟨bb, o + k * 14 + 12, none⟩ = some (.int .i64 (s.item k).num) := hcell 12 _ rfl
        have c13 : wr.cell? ⟨bb, o + k * 14 + 13, none⟩ = some (.slice (s.item k).l.p (s.item k).l.n (s.item k).l.c) := hcell 13 _ rfl
        have HIn : Hid (∀ V, Below w.heap.size w V → OpT.In V (fun b => b < w.heap.size) (s.item k)) := fun V hV => (show OpT.In w (fun b => b < w.heap.size) (s.item k) from HI.out.each k hlt).kept hV.size (fun b hb _ => hV.block b hb)
        clear hcell hat
        go_wp2_with (go_at_call 15; refine HO.out.mono ?_; rintro e w2 ⟨rfl, rfl⟩)
        have hB2 : Below w.heap.size w (w2.alloc (.cells #[.int .i64 (s.item k).kind, .int .i64 (s.item k).which, .int .i64 (s.item k).port, .int .i64 (s.item k).id, .string (s.item k).r.key, .int .i64 (s.item k).r.v.kind, .int .i64 (s.item k).r.v.int, .string (s.item k).r.v.text, .slice (s.item k).r.v.p (s.item k).r.v.n (s.item k).r.v.c, .slice (s.item k).r.p (s.item k).r.n (s.item k).r.c, .slice (s.item k).a.p (s.item k).a.n (s.item k).a.c, .slice (s.item k).q.p (s.item k).q.n (s.item k).q.c, .int .i64 (s.item k).num, .slice (s.item k).l.p (s.item k).l.n (s.item k).l.c] 44)) := HM.out.2.2.alloc HM.out.2.2.size _
        have hX2 := Box.new w2 #[.int .i64 (s.item k).kind, .int .i64 (s.item k).which, .int .i64 (s.item k).port, .int .i64 (s.item k).id, .string (s.item k).r.key, .int .i64 (s.item k).r.v.kind, .int .i64 (s.item k).r.v.int, .string (s.item k).r.v.text, .slice (s.item k).r.v.p (s.item k).r.v.n (s.item k).r.v.c, .slice (s.item k).r.p (s.item k).r.n (s.item k).r.c, .slice (s.item k).a.p (s.item k).a.n (s.item k).a.c, .slice (s.item k).q.p (s.item k).q.n (s.item k).q.c, .int .i64 (s.item k).num, .slice (s.item k).l.p (s.item k).l.n (s.item k).l.c] 44
        have hC2 := HM.out.1.below ((Below.refl w2.heap.size w2).alloc (Nat.le_refl _) (.cells #[.int .i64 (s.item k).kind, .int .i64 (s.item k).which, .int .i64 (s.item k).port, .int .i64 (s.item k).id, .string (s.item k).r.key, .int .i64 (s.item k).r.v.kind, .int .i64 (s.item k).r.v.int, .string (s.item k).r.v.text, .slice (s.item k).r.v.p (s.item k).r.v.n (s.item k).r.v.c, .slice (s.item k).r.p (s.item k).r.n (s.item k).r.c, .slice (s.item k).a.p (s.item k).a.n (s.item k).a.c, .slice (s.item k).q.p (s.item k).q.n (s.item k).q.c, .int .i64 (s.item k).num, .slice (s.item k).l.p (s.item k).l.n (s.item k).l.c] 44))
        refine (szRecord_all (s.item k).r _ _ w.heap.size m (HIn.out _ hB2).r (Nat.lt_irrefl _) hC2 hm2 hm1).mono ?_
        rintro e w3 ⟨rfl, m3, hb3, ht3, hk3⟩
        have hB3 : Below w.heap.size w w3 := hB2.trans (hk3.below hB2.size (fun x hx e => by omega))
        have hX3 := hX2.but hk3 (by omega)
        have HT3 := hid ht3
        have y13 := hX3.cell 13
        simp at y13
        have H3 := hid (And.intro hB3 (And.intro hX3 hb3))
        have hl3 := hX3.lt
        have l3 := ht3.low
        have e3 := ht3.le
        clear hB2 hX2 hC2 hb3 ht3 hk3 hB3 hX3 c0 c1 c2 c3 c4 c5 c6 c7 c8 c9 c10 c11 c12 c13
        go_wp2_with fail
        refine (szCells_all (s.item k).l w3 _ w.heap.size m3 (HIn.out _ H3.out.1).l (Nat.lt_irrefl _) H3.out.2.2 l3 (by omega)).mono ?_
        rintro e w4 ⟨rfl, m4, hb4, ht4, hk4⟩
        have hB4 : Below w.heap.size w w4 := H3.out.1.trans (hk4.below H3.out.1.size (fun x hx e => by omega))
        have hX4 := H3.out.2.1.but hk4 (by omega)
        have HT4 := hid ht4
        have y10 := hX4.cell 10
        simp at y10
        have H4 := hid (And.intro hB4 (And.intro hX4 hb4))
        have hl4 := hX4.lt
        have l4 := ht4.low
        have e4 := ht4.le
        clear hb4 ht4 hk4 hB4 hX4 H3 y13
        go_wp2_with fail
        refine (szRecords_all (s.item k).a w4 _ w.heap.size m4 (HIn.out _ H4.out.1).a (Nat.lt_irrefl _) H4.out.2.2 l4 (by omega)).mono ?_
        rintro e w5 ⟨rfl, m5, hb5, ht5, hk5⟩
        have hB5 : Below w.heap.size w w5 := H4.out.1.trans (hk5.below H4.out.1.size (fun x hx e => by omega))
        have hX5 := H4.out.2.1.but hk5 (by omega)
        have HT5 := hid ht5
        have y11 := hX5.cell 11
        simp at y11
        have H5 := hid (And.intro hB5 (And.intro hX5 hb5))
        have hl5 := hX5.lt
        have l5 := ht5.low
        have e5 := ht5.le
        clear hb5 ht5 hk5 hB5 hX5 H4 y10
        go_wp2_with fail
        refine (szRecords_all (s.item k).q w5 _ w.heap.size m5 (HIn.out _ H5.out.1).q (Nat.lt_irrefl _) H5.out.2.2 l5 (by omega)).mono ?_
        rintro e w6 ⟨rfl, m6, hb6, ht6, hk6⟩
        have hB6 : Below w.heap.size w w6 := H5.out.1.trans (hk6.below H5.out.1.size (fun x hx e => by omega))
        have HT6 := hid ht6
        have H6 := hid (And.intro hB6 hb6)
        have l6 := ht6.low
        have e6 := ht6.le
        clear hb6 ht6 hk6 hB6 H5 y11
        go_wp2
        go_roundw
        case rel =>
          refine ⟨k + 1, m6, by omega, by go_num, H6.out.2, ⟨by omega, l6⟩, fun h0 j hj => ?_, H6.out.1⟩
          have a6 := HT6.out.ok h0
          have a5 := HT5.out.ok a6.1
          have a4 := HT4.out.ok a5.1
          have a3 := HT3.out.ok a4.1
          rcases Nat.lt_or_ge j k with hj2 | hj2
          · exact HM.out.2.1 (by omega) j hj2
          · obtain rfl : j = k := by omega
            refine ⟨by unfold RT.size; omega, LT.sumR_sz (by omega), LT.sumR_sz (by omega), LT.totC_sz (by omega)⟩
        case measure => simp [intOf]; omega
      · have hd : decide (0 ≤ m) = false := decide_eq_false hm
        rw [hd] at HO
        go_wp2_with (go_at_call 15; refine HO.out.mono ?_; rintro e w2 ⟨rfl, rfl⟩)
        refine bodyPost_ret (v := .bool false) (by simp [results, Try.results9, go_sem]) rfl ⟨HM.out.2.2, false, rfl, fun h => by cases h⟩
    · obtain rfl : k = s.n := by omega
      go_wp2_with (go_at_call 15; refine HO.out.mono ?_; rintro e w2 ⟨rfl, rfl⟩)
      refine bodyPost_ret (v := .bool (decide (0 ≤ m))) (by simp [results, Try.results9, go_sem]) rfl ⟨HM.out.2.2, _, rfl, fun h => HM.out.2.1 (of_decide_eq_true h)⟩
end Go.Proofs.Ytdncnnjhfipokab

namespace Go.Proofs.Ytdncnnjhfipokab
open Go.RowKit
set_option maxRecDepth 8000
def bytP : ByteArray := ⟨#[112]⟩
def rtP : RT := ⟨bytP, .mk 0 0 ⟨#[]⟩ 0 none 0 (fun _ => .nil), none, 0, 0, fun _ => 0⟩
def lP (b : Nat) : LT RT := ⟨some ⟨b, 0, none⟩, 1, 1, fun _ => rtP⟩
def arrP : Array Value := #[.string bytP, .int .i64 0, .int .i64 0, .string ⟨#[]⟩, .slice none 0 0, .slice none 0 0]
theorem lP_in (w : World) (b : Nat) (h : Box w b arrP 38) : LT.In elRec w (fun k => k = b) (lP b) := by
  refine ⟨fun _ => ⟨b, 0, rfl, rfl, h.lt, fun j hj r u hu => ?_⟩, fun j _ => ?_, Nat.le_refl _, by show (1 : Nat) ≤ _; omega, by show (1 : Nat) ≤ _; unfold maxLen; omega, fun e => by cases e⟩
  · obtain rfl : j = 0 := by have : j < 1 := hj; omega
    rw [h.cell, show 0 + 0 * elRec.size + r = r by omega]
    simpa [arrP, elRec, RT.cells, lP, rtP, VT.kind, VT.int, VT.text, VT.p, VT.n, VT.c] using hu
  · refine ⟨⟨⟨by decide, by decide, by decide, by decide, by show (0 : Nat) ≤ _; omega, Nat.le_refl _, by show (0 : Nat) ≤ _; omega, by show (0 : Nat) ≤ _; omega, fun _ => ⟨rfl, rfl⟩⟩, fun h => absurd h (Nat.lt_irrefl _), fun j hj => absurd hj (Nat.not_lt_zero _)⟩, ⟨fun h => absurd h (Nat.lt_irrefl _), Nat.le_refl _, by show (0 : Nat) ≤ _; omega, by show (0 : Nat) ≤ _; omega, fun j hj => absurd hj (Nat.not_lt_zero _), fun _ => ⟨rfl, rfl⟩⟩, by show (1 : Nat) ≤ _; omega⟩
theorem lP_sz (b : Nat) : SzR (lP b) := ⟨by show (1 : Nat) ≤ _; omega, fun j _ => by show 0 + _ ≤ _; simp [lP, rtP, VT.total]⟩
theorem nilR_in (w : World) (S : Nat → Prop) (f : Nat → RT) : LT.In elRec w S (nilL f) := LT.In.none_ _ _ _ _ _ _ (Nat.zero_le _) (fun _ => rfl)
theorem nilC_in (w : World) (S : Nat → Prop) (f : Nat → VT) : LT.In elCell w S (nilL f) := LT.In.none_ _ _ _ _ _ _ (Nat.zero_le _) (fun _ => rfl)
theorem nilR_sz (f : Nat → RT) : SzR (nilL f) := ⟨Nat.zero_le _, fun _ hj => absurd hj (Nat.not_lt_zero _)⟩
theorem nilC_sz (f : Nat → VT) : SzC (nilL f) := ⟨Nat.zero_le _, fun _ hj => absurd hj (Nat.not_lt_zero _)⟩
/-- a book of one port, told its first marker -/
structure OneK (K : Bk) : Prop where
  now : K.now = 3
  ports : K.ports = 1
  cp : K.cp = true
  opn : K.opn = false
  num : K.num = 8
  pd : K.pd.n = 1
theorem known_pure {mode : Int} {w w' : World} {b g : Nat} {K' : Bk} {r : Bool} (hM : MarkQ 0 3 (nilL fun _ => rt0) 8 (nilL fun _ => .nil) (lP g) w b (Bk.fresh mode 1 (-1)) w' K' r) : r = true ∧ OneK K' := by
  have hmk : (Bk.fresh mode 1 (-1)).marks 0 3 = true := by simp [Bk.marks, Bk.refE, Bk.has, Bk.held, Bk.fresh]
  have hbs : (Bk.fresh mode 1 (-1)).base 3 = (Bk.fresh mode 1 (-1)).begin 3 := by rw [Bk.base, if_pos (by show (0 : Int) < 3; omega)]
  obtain ⟨w1, _, hr, hQ⟩ := hM.y hmk
  rw [hbs] at hr hQ
  have hal : (((Bk.fresh mode 1 (-1)).begin 3).setSt 0 2).alig = true := by
    simp [Bk.alig, Bk.setSt, Bk.begin, Bk.fresh, Bk.okP]
  have hR : ((Bk.fresh mode 1 (-1)).begin 3).shutR 0 = true := by
    unfold Bk.shutR
    rw [hal]
    split <;> rfl
  have hS : ((Bk.fresh mode 1 (-1)).begin 3).shutS 0 0 = 1 := by
    unfold Bk.shutS
    rw [hal]
    split
    · simp [Bk.rel, Bk.setSt]
    · simp [Bk.setSt]
  have hr2 : (0 : Int).toNat = 0 := rfl
  rw [hr2] at hr hQ
  have hst : K'.st 0 = 1 := by rw [hQ.st]; exact hS
  have hpp : K'.ports = 1 := hQ.b.ports
  obtain ⟨h8, _, hpd, _⟩ := hQ.b.cpd hR
  refine ⟨hr.trans hR, ⟨hQ.b.now, hpp, by rw [hQ.b.cp, hR]; simp, ?_, h8, hpd.n⟩⟩
  unfold Bk.opn
  rw [hpp]
  simp [hst]
/-- a book in the memory of a call that began at w0 -/
structure Bok (w0 w : World) (b : Nat) (K : Bk) : Prop where
  i : BkI w b K
  bel : Below w0.heap.size w0 w
  c : ∀ k, K.C b k → w0.heap.size ≤ k
theorem Bok.step {w0 w w' : World} {b : Nat} {K K' : Bk} (h : Bok w0 w b K) (g : SetLog w b K w' K') : Bok w0 w' b K' :=
  ⟨g.inv, h.bel.trans (g.but.below h.bel.size fun k hk e => by have := h.c k e; omega), fun k hk => by
    rcases g.cs k hk with e | e
    · exact h.c k e
    · exact Nat.le_trans h.bel.size e⟩
theorem Bok.below {w0 w w' : World} {b : Nat} {K : Bk} (h : Bok w0 w b K) (g : Below w.heap.size w w') : Bok w0 w' b K := h.step (SetLog.same h.i g)
theorem Bok.fresh (mode ports back : Int) (w : World) (h : legalB mode ports back = true) : Bok w (w.alloc (.cells (Bk.fresh mode ports back).arr 83)) w.heap.size (Bk.fresh mode ports back) := by
  refine ⟨new_inv mode ports back w h, (Below.refl _ _).alloc (Nat.le_refl _) _, fun k hk => ?_⟩
  rcases hk with rfl | ⟨i, _, e⟩
  · exact Nat.le_refl _
  · cases e
end Go.Proofs.Ytdncnnjhfipokab
