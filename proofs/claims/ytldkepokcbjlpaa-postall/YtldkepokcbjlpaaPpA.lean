import Derived.Test.YtldkepokcbjlpaaPack5
import Derived.Test.YtldkepokcbjlpaaPack6
import Derived.Test.YtldkepokcbjlpaaRgE
namespace Go.Proofs.Ytldkepokcbjlpaa
open Go.RowKit
set_option maxRecDepth 8000
theorem own_in {α : Type} {E : El α} {base : Nat} {w : World} {v : Value} {n : Nat} {g : Nat → α} {S : Nat → Prop} (own : w.ownsRow base E.ty E.size v n ((List.range n).flatMap fun j => E.cells (g j))) (hS : ∀ k, v.ownBlock = some k → S k) (each : ∀ j, j < n → E.In w S (g j)) (hnn : n ≤ 140737488355328) :
    ∃ p c, v = .slice p n c ∧ LT.In E w S ⟨p, n, c, g⟩ := by
  have hlt := own.lt
  have hce := @World.ownsRow.cells _ _ _ _ _ _ _ own
  obtain ⟨_, ⟨hv, h0⟩ | ⟨gb, cap, cur, hv, hbg, hh, hnc, hcm, hcs, htake⟩⟩ := id own
  · subst h0
    exact ⟨none, 0, hv, LT.In.none_ E w _ none 0 g (Nat.zero_le _) (fun _ => rfl)⟩
  · refine ⟨_, cap, hv, fun hn => ⟨gb, 0, rfl, hS gb (by rw [hv]; rfl), (hlt gb (by rw [hv]; rfl)).2, fun j hj r u hu => ?_⟩, each, hnc, hnn, hcm, fun h => by cases h⟩
    have hr : r < E.size := by
      rcases Nat.lt_or_ge r E.size with h1 | h1
      · exact h1
      · rw [List.getElem?_eq_none (by rw [E.len]; exact h1)] at hu; cases hu
    have := hce (g := gb) (by rw [hv]; rfl) (j * E.size + r) u (by rw [range_flat_get E g n j r hj hr]; exact hu)
    rw [Go.WideShapes.add_plain] at this
    rw [show (0 : Nat) + j * E.size + r = 0 + (j * E.size + r) by omega]
    exact this
theorem own_in' {α : Type} {E : El α} {base : Nat} {w : World} {l : LT α} {S : Nat → Prop} (own : w.ownsRow base E.ty E.size (.slice l.p l.n l.c) l.n ((List.range l.n).flatMap fun j => E.cells (l.item j))) (hS : ∀ k, (Value.slice l.p l.n l.c).ownBlock = some k → S k) (each : ∀ j, j < l.n → E.In w S (l.item j)) (hnn : l.n ≤ 140737488355328) : LT.In E w S l := by
  obtain ⟨p, c, e, h⟩ := own_in own hS each hnn
  obtain ⟨lp, ln, lc, li⟩ := l
  simp only [Value.slice.injEq, true_and] at e
  obtain ⟨rfl, rfl⟩ := e
  exact h
structure PtT where
  num : Int
  cl : LT VT
  lg : LT (LT RT)
  pd : LT RT
/-- what a coordinator holds -/
structure Ps where
  tasks : Int
  first : Int
  sum : Int
  sts : LT Int
  ch : Nat
  pl : Nat → Int
  pt : Nat → PtT
def Ps.arr (P : Ps) : Array Value := #[.int .i64 P.tasks, .int .i64 P.first, .int .u32 P.sum, .slice P.sts.p P.sts.n P.sts.c, .chan (some P.ch), .int .u8 (P.pl 0), .int .u8 (P.pl 1), .int .u8 (P.pl 2), .int .u8 (P.pl 3), .int .u8 (P.pl 4), .int .u8 (P.pl 5), .int .u8 (P.pl 6), .int .u8 (P.pl 7), .int .u8 (P.pl 8), .int .u8 (P.pl 9), .int .u8 (P.pl 10), .int .u8 (P.pl 11), .int .i64 (P.pt 0).num, .slice (P.pt 0).cl.p (P.pt 0).cl.n (P.pt 0).cl.c, .slice (P.pt 0).lg.p (P.pt 0).lg.n (P.pt 0).lg.c, .slice (P.pt 0).pd.p (P.pt 0).pd.n (P.pt 0).pd.c, .int .i64 (P.pt 1).num, .slice (P.pt 1).cl.p (P.pt 1).cl.n (P.pt 1).cl.c, .slice (P.pt 1).lg.p (P.pt 1).lg.n (P.pt 1).lg.c, .slice (P.pt 1).pd.p (P.pt 1).pd.n (P.pt 1).pd.c, .int .i64 (P.pt 2).num, .slice (P.pt 2).cl.p (P.pt 2).cl.n (P.pt 2).cl.c, .slice (P.pt 2).lg.p (P.pt 2).lg.n (P.pt 2).lg.c, .slice (P.pt 2).pd.p (P.pt 2).pd.n (P.pt 2).pd.c, .int .i64 (P.pt 3).num, .slice (P.pt 3).cl.p (P.pt 3).cl.n (P.pt 3).cl.c, .slice (P.pt 3).lg.p (P.pt 3).lg.n (P.pt 3).lg.c, .slice (P.pt 3).pd.p (P.pt 3).pd.n (P.pt 3).pd.c, .int .i64 (P.pt 4).num, .slice (P.pt 4).cl.p (P.pt 4).cl.n (P.pt 4).cl.c, .slice (P.pt 4).lg.p (P.pt 4).lg.n (P.pt 4).lg.c, .slice (P.pt 4).pd.p (P.pt 4).pd.n (P.pt 4).pd.c, .int .i64 (P.pt 5).num, .slice (P.pt 5).cl.p (P.pt 5).cl.n (P.pt 5).cl.c, .slice (P.pt 5).lg.p (P.pt 5).lg.n (P.pt 5).lg.c, .slice (P.pt 5).pd.p (P.pt 5).pd.n (P.pt 5).pd.c, .int .i64 (P.pt 6).num, .slice (P.pt 6).cl.p (P.pt 6).cl.n (P.pt 6).cl.c, .slice (P.pt 6).lg.p (P.pt 6).lg.n (P.pt 6).lg.c, .slice (P.pt 6).pd.p (P.pt 6).pd.n (P.pt 6).pd.c, .int .i64 (P.pt 7).num, .slice (P.pt 7).cl.p (P.pt 7).cl.n (P.pt 7).cl.c, .slice (P.pt 7).lg.p (P.pt 7).lg.n (P.pt 7).lg.c, .slice (P.pt 7).pd.p (P.pt 7).pd.n (P.pt 7).pd.c, .int .i64 (P.pt 8).num, .slice (P.pt 8).cl.p (P.pt 8).cl.n (P.pt 8).cl.c, .slice (P.pt 8).lg.p (P.pt 8).lg.n (P.pt 8).lg.c, .slice (P.pt 8).pd.p (P.pt 8).pd.n (P.pt 8).pd.c, .int .i64 (P.pt 9).num, .slice (P.pt 9).cl.p (P.pt 9).cl.n (P.pt 9).cl.c, .slice (P.pt 9).lg.p (P.pt 9).lg.n (P.pt 9).lg.c, .slice (P.pt 9).pd.p (P.pt 9).pd.n (P.pt 9).pd.c, .int .i64 (P.pt 10).num, .slice (P.pt 10).cl.p (P.pt 10).cl.n (P.pt 10).cl.c, .slice (P.pt 10).lg.p (P.pt 10).lg.n (P.pt 10).lg.c, .slice (P.pt 10).pd.p (P.pt 10).pd.n (P.pt 10).pd.c, .int .i64 (P.pt 11).num, .slice (P.pt 11).cl.p (P.pt 11).cl.n (P.pt 11).cl.c, .slice (P.pt 11).lg.p (P.pt 11).lg.n (P.pt 11).lg.c, .slice (P.pt 11).pd.p (P.pt 11).pd.n (P.pt 11).pd.c]
def elU8 : El Int where
  ty := 85
  size := 1
  cells := fun x => [.int .u8 x]
  len := fun _ => rfl
  one := fun x u hu => by simp only [List.mem_singleton] at hu; subst hu; rfl
  In := fun _ _ x => 0 ≤ x ∧ x ≤ 4
  kept := fun h _ _ => h
  mono := fun h _ => h
def rowsU (l : LT Int) : List Value := (List.range l.n).flatMap fun j => elU8.cells (l.item j)
def Ps.lv (P : Ps) : Value := .slice P.sts.p P.sts.n P.sts.c
structure PsI (w : World) (b : Nat) (P : Ps) : Prop where
  box : Box w b P.arr 84
  own : w.ownsRow 0 85 1 P.lv P.sts.n (rowsU P.sts)
  ne : P.lv.ownBlock ≠ some b
  st : ∀ j, j < P.sts.n → 0 ≤ P.sts.item j ∧ P.sts.item j ≤ 4
  t0 : 1 ≤ P.tasks
  t1 : P.tasks ≤ 12
  f0 : 1 ≤ P.first
  f1 : P.first ≤ 10000
  n1 : (P.sts.n : Int) ≤ 10000
theorem PsI.list {w : World} {b : Nat} {P : Ps} (h : PsI w b P) : LT.In elU8 w (fun _ => True) P.sts := by
  exact own_in' (E := elU8) (l := P.sts) h.own (fun _ _ => trivial) (fun j hj => h.st j hj) (by have := h.n1; omega)
theorem PsI.cp {w : World} {b : Nat} {P : Ps} (h : PsI w b P) {i : Nat} (hi : i < 12) : w.cell? ⟨b, 5 + i, none⟩ = some (.int .u8 (P.pl i)) := by
  rw [h.box.cell]
  rcases (by omega : i = 0 ∨ i = 1 ∨ i = 2 ∨ i = 3 ∨ i = 4 ∨ i = 5 ∨ i = 6 ∨ i = 7 ∨ i = 8 ∨ i = 9 ∨ i = 10 ∨ i = 11) with rfl | rfl | rfl | rfl | rfl | rfl | rfl | rfl | rfl | rfl | rfl | rfl <;> rfl
def Ps.next (P : Ps) : Int := P.first + P.sts.n
def Ps.stat (P : Ps) (id : Int) : Int := if id < P.first ∨ P.next ≤ id then 0 else P.sts.item (id - P.first).toNat
def Ps.under (P : Ps) : Int := if P.stat (P.next - 1) = 1 then P.next - 1 else 0
set_option maxHeartbeats 2000000 in
theorem next_any (w : World) (b : Nat) (P : Ps) (hI : PsI w b P) : Calls Try.prog 29 #[.pointer (some ⟨b, 0, none⟩)] w fun e w' => e = .returned (.int .i64 P.next) ∧ Below w.heap.size w w' := by
  have c1 := hI.box.cell 1
  have c3 := hI.box.cell 3
  have bl := hI.box.lt
  have hn := hI.n1
  have h0 := hI.f0
  have h1 := hI.f1
  simp [Ps.arr] at c1 c3
  have hwr : IntKind.i64.wrap (P.first + (P.sts.n : Int)) = P.first + (P.sts.n : Int) := by rw [IntKind.wrap_i64]; omega
  clear hI
  go_enter Try.func29, Try.ntmps29
  go_wp2_with fail
  refine wp_region_calmD 30 (fun wx => Below w.heap.size w wx) [(0, true), (1, true), (2, true), (3, false), (4, true), (5, true), (6, true), (7, false), (8, true), (9, true), (10, true)] [] (by kernel_rfl) (by kernel_rfl) (Below.refl _ _).drew ?_
  refine wpPre_e rfl rfl (fun K1 hK1 => ?_)
  apply Exists.intro
  refine And.intro (fun wx hx => ?_) ?_
  · go_simp
    try rfl
  go_simp
  refine hK1 _ ?_
  clear hK1 K1
  refine wpPre_e rfl rfl (fun K1 hK1 => ?_)
  apply Exists.intro
  refine And.intro (fun wx hx => ?_) ?_
  · go_simp
    try rfl
  go_simp
  refine hK1 _ ?_
  clear hK1 K1
  refine wpPre_e rfl rfl (fun K1 hK1 => ?_)
  apply Exists.intro
  refine And.intro (fun wx hx => ?_) ?_
  · go_simp
    try rfl
  go_simp
  refine hK1 _ ?_
  clear hK1 K1
  refine wpPre_e rfl rfl (fun K1 hK1 => ?_)
  apply Exists.intro
  refine And.intro (fun wx hx => ?_) ?_
  · have e0 := below_fact hx rfl c1
    have e1 := below_fact hx rfl c3
    go_simp
    try rfl
  go_simp
  refine hK1 _ ?_
  clear hK1 K1
  refine wpPre_e rfl rfl (fun K1 hK1 => ?_)
  apply Exists.intro
  refine And.intro (fun wx hx => ?_) ?_
  · go_simp
    try rfl
  go_simp
  refine hK1 _ ?_
  clear hK1 K1
  refine wpPre_e rfl rfl (fun K1 hK1 => ?_)
  apply Exists.intro
  refine And.intro (fun wx hx => ?_) ?_
  · go_simp
    try rfl
  go_simp
  refine hK1 _ ?_
  clear hK1 K1
  refine wpPre_e rfl rfl (fun K1 hK1 => ?_)
  apply Exists.intro
  refine And.intro (fun wx hx => ?_) ?_
  · go_simp
    try rfl
  go_simp
  refine hK1 _ ?_
  clear hK1 K1
  refine wpPre_e rfl rfl (fun K1 hK1 => ?_)
  apply Exists.intro
  refine And.intro (fun wx hx => ?_) ?_
  · have e0 := below_fact hx rfl c1
    have e1 := below_fact hx rfl c3
    go_simp
    try rfl
  go_simp
  refine hK1 _ ?_
  clear hK1 K1
  refine wpPre_e rfl rfl (fun K1 hK1 => ?_)
  apply Exists.intro
  refine And.intro (fun wx hx => ?_) ?_
  · go_simp
    try rfl
  go_simp
  refine hK1 _ ?_
  clear hK1 K1
  refine wpPre_e rfl rfl (fun K1 hK1 => ?_)
  apply Exists.intro
  refine And.intro (fun wx hx => ?_) ?_
  · go_simp
    try rfl
  go_simp
  refine hK1 _ ?_
  clear hK1 K1
  refine wpPre_e rfl rfl (fun K1 hK1 => ?_)
  apply Exists.intro
  refine And.intro (fun wx hx => ?_) ?_
  · go_simp
    try rfl
  go_simp
  refine hK1 _ ?_
  clear hK1 K1
  refine wpPre_nil ?_
  refine wpStg_nil ?_
  go_wp2
  refine bodyPost_ret (v := .int .i64 (P.first + P.sts.n)) (by simp [results, Try.results29, go_sem]) rfl ?_
  exact ⟨rfl, (Below.refl _ _).drew⟩
set_option maxHeartbeats 4000000 in
theorem stat_any (id : Int) (w : World) (b : Nat) (P : Ps) (hI : PsI w b P) : Calls Try.prog 28 #[.pointer (some ⟨b, 0, none⟩), .int .i64 id] w fun e w' => e = .returned (.int .u8 (P.stat id)) ∧ Below w.heap.size w w' := by
  have HI := hid hI
  have c1 := hI.box.cell 1
  have bl := hI.box.lt
  simp [Ps.arr] at c1
  have hn1 := hI.n1
  have hf0 := hI.f0
  have hf1 := hI.f1
  have HN := hid (next_any w b P hI)
  clear hI
  by_cases h0 : id < P.first
  · have HE : Hid (P.stat id = 0) := if_pos (.inl h0)
    go_enter Try.func28, Try.ntmps28
    go_wp2
    refine bodyPost_ret (v := .int .u8 (0)) (by simp [results, Try.results28, go_sem]) rfl ?_
    exact ⟨by rw [HE.out], Below.refl _ _⟩
  by_cases h1 : P.next ≤ id
  · have HE : Hid (P.stat id = 0) := if_pos (.inr h1)
    go_enter Try.func28, Try.ntmps28
    go_wp2_with (go_at_call 29; refine HN.out.mono ?_; rintro e w1 ⟨rfl, hb1⟩)
    refine bodyPost_ret (v := .int .u8 (0)) (by simp [results, Try.results28, go_sem]) rfl ?_
    exact ⟨by rw [HE.out], hb1⟩
  obtain ⟨i, hi, hin⟩ : ∃ i : Nat, id = P.first + (i : Int) ∧ i < P.sts.n := ⟨(id - P.first).toNat, by omega, by unfold Ps.next at h1; omega⟩
  have HE : Hid (P.stat id = P.sts.item i) := by
    unfold Hid Ps.stat
    rw [if_neg (by omega), show (id - P.first).toNat = i by omega]
  have HNx : Hid (P.next = P.first + (P.sts.n : Int)) := rfl
  have h1' : ¬ P.next ≤ P.first + (i : Int) := by rw [← hi]; exact h1
  have hin' : (i : Int) < (P.sts.n : Int) := by omega
  have hsub : P.first + (i : Int) - P.first = (i : Int) := by omega
  have hwi : IntKind.i64.wrap (i : Int) = (i : Int) := by rw [IntKind.wrap_i64]; omega
  subst hi
  clear h1
  go_enter Try.func28, Try.ntmps28
  go_wp2_with (go_at_call 29; refine HN.out.mono ?_; rintro e w1 ⟨rfl, hb1⟩)
  have hI1 := HI.out.box.below hb1
  have c1 := hI1.cell 1
  have c3 := hI1.cell 3
  have bl := hI1.lt
  simp [Ps.arr] at c1 c3
  obtain ⟨gb, o, hgp, _, hgl, hat⟩ := (HI.out.list.below hb1).at_ (by omega)
  have t0 : w1.cell? ⟨gb, o + i, none⟩ = some (.int .u8 (P.sts.item i)) := by have := hat i hin 0 _ rfl; simpa [elU8] using this
  rw [hgp] at c3
  have HB1 := hid hb1
  clear hI1 hat hgp hb1 HN
  refine wp_region_calmD 30 (fun wx => Below w1.heap.size w1 wx) [(0, true), (1, true), (2, true), (3, false), (4, true), (5, true), (6, true), (7, true), (8, false), (9, true), (10, true), (11, false), (12, true)] [] (by kernel_rfl) (by kernel_rfl) (Below.refl _ _).drew ?_
  refine wpPre_e rfl rfl (fun K1 hK1 => ?_)
  apply Exists.intro
  refine And.intro (fun wx hx => ?_) ?_
  · go_simp
    try rfl
  go_simp
  refine hK1 _ ?_
  clear hK1 K1
  refine wpPre_e rfl rfl (fun K1 hK1 => ?_)
  apply Exists.intro
  refine And.intro (fun wx hx => ?_) ?_
  · go_simp
    try rfl
  go_simp
  refine hK1 _ ?_
  clear hK1 K1
  refine wpPre_e rfl rfl (fun K1 hK1 => ?_)
  apply Exists.intro
  refine And.intro (fun wx hx => ?_) ?_
  · go_simp
    try rfl
  go_simp
  refine hK1 _ ?_
  clear hK1 K1
  refine wpPre_e rfl rfl (fun K1 hK1 => ?_)
  apply Exists.intro
  refine And.intro (fun wx hx => ?_) ?_
  · have e0 := below_fact hx rfl c3
    have e1 := below_fact hx rfl c1
    have e2 := below_fact hx rfl t0
    go_simp
    try rfl
  go_simp
  refine hK1 _ ?_
  clear hK1 K1
  refine wpPre_e rfl rfl (fun K1 hK1 => ?_)
  apply Exists.intro
  refine And.intro (fun wx hx => ?_) ?_
  · go_simp
    try rfl
  go_simp
  refine hK1 _ ?_
  clear hK1 K1
  refine wpPre_e rfl rfl (fun K1 hK1 => ?_)
  apply Exists.intro
  refine And.intro (fun wx hx => ?_) ?_
  · go_simp
    try rfl
  go_simp
  refine hK1 _ ?_
  clear hK1 K1
  refine wpPre_e rfl rfl (fun K1 hK1 => ?_)
  apply Exists.intro
  refine And.intro (fun wx hx => ?_) ?_
  · go_simp
    try rfl
  go_simp
  refine hK1 _ ?_
  clear hK1 K1
  refine wpPre_e rfl rfl (fun K1 hK1 => ?_)
  apply Exists.intro
  refine And.intro (fun wx hx => ?_) ?_
  · go_simp
    try rfl
  go_simp
  refine hK1 _ ?_
  clear hK1 K1
  refine wpPre_e rfl rfl (fun K1 hK1 => ?_)
  apply Exists.intro
  refine And.intro (fun wx hx => ?_) ?_
  · have e0 := below_fact hx rfl c3
    have e1 := below_fact hx rfl c1
    have e2 := below_fact hx rfl t0
    go_simp
    try rfl
  go_simp
  refine hK1 _ ?_
  clear hK1 K1
  refine wpPre_e rfl rfl (fun K1 hK1 => ?_)
  apply Exists.intro
  refine And.intro (fun wx hx => ?_) ?_
  · go_simp
    try rfl
  go_simp
  refine hK1 _ ?_
  clear hK1 K1
  refine wpPre_e rfl rfl (fun K1 hK1 => ?_)
  apply Exists.intro
  refine And.intro (fun wx hx => ?_) ?_
  · go_simp
    try rfl
  go_simp
  refine hK1 _ ?_
  clear hK1 K1
  refine wpPre_e rfl rfl (fun K1 hK1 => ?_)
  apply Exists.intro
  refine And.intro (fun wx hx => ?_) ?_
  · have e0 := below_fact hx rfl c3
    have e1 := below_fact hx rfl c1
    have e2 := below_fact hx rfl t0
    go_simp
    try rfl
  go_simp
  refine hK1 _ ?_
  clear hK1 K1
  refine wpPre_e rfl rfl (fun K1 hK1 => ?_)
  apply Exists.intro
  refine And.intro (fun wx hx => ?_) ?_
  · go_simp
    try rfl
  go_simp
  refine hK1 _ ?_
  clear hK1 K1
  refine wpPre_nil ?_
  refine wpStg_nil ?_
  go_wp2
  refine bodyPost_ret (v := .int .u8 (P.sts.item i)) (by simp [results, Try.results28, go_sem]) rfl ?_
  exact ⟨by rw [HE.out], HB1.out.trans ((Below.refl w1.heap.size w1).drew.mono HB1.out.size)⟩
end Go.Proofs.Ytldkepokcbjlpaa
