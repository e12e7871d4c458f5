import Derived.Test.YtldkepokcbjlpaaPack36
namespace Go.Proofs.Ytldkepokcbjlpaa
open Go.RowKit Go.Conc
set_option maxRecDepth 60000
/-- one of the reference's snapshots, as its cells are -/
structure Rs where
  id : Int
  st : Int
  pp : Option Addr
  pn : Nat
  pc : Nat
  tp : Option Addr
  tn : Nat
  tc : Nat
  pk : Int
def elSh : El Rs where
  ty := 125
  size := 5
  cells := fun x => [.int .i64 x.id, .int .i64 x.st, .slice x.pp x.pn x.pc, .slice x.tp x.tn x.tc, .int .i64 x.pk]
  len := fun _ => rfl
  one := fun x u hu => by
    simp only [List.mem_cons, List.not_mem_nil, or_false] at hu
    rcases hu with rfl | rfl | rfl | rfl | rfl <;> rfl
  In := fun _ _ _ => True
  kept := fun _ _ _ => trivial
  mono := fun _ _ => trivial
structure Rp where
  tasks : Int
  first : Int
  sum : Int
  sh : LT Rs
def Rp.arr (R : Rp) : Array Value := #[.int .i64 R.tasks, .int .i64 R.first, .int .u32 R.sum, .slice R.sh.p R.sh.n R.sh.c]
def Rp.lv (R : Rp) : Value := .slice R.sh.p R.sh.n R.sh.c
def rowsS (l : LT Rs) : List Value := (List.range l.n).flatMap fun j => elSh.cells (l.item j)
structure RpI (w : World) (b : Nat) (R : Rp) : Prop where
  box : Box w b R.arr 106
  own : w.ownsRow 0 125 5 R.lv R.sh.n (rowsS R.sh)
  ne : R.lv.ownBlock ≠ some b
  t0 : 1 ≤ R.tasks
  t1 : R.tasks ≤ 12
  f0 : 1 ≤ R.first
  f1 : R.first ≤ 10000
  n1 : (R.sh.n : Int) ≤ 10000
def Rp.C (R : Rp) (b k : Nat) : Prop := k = b ∨ R.lv.ownBlock = some k
theorem RpI.lt {w : World} {b : Nat} {R : Rp} (h : RpI w b R) {k : Nat} (hk : R.C b k) : k < w.heap.size := by
  rcases hk with rfl | e
  · exact h.box.lt
  · exact (h.own.lt k e).2
theorem RpI.kept {w w' : World} {b : Nat} {R : Rp} (h : RpI w b R) (hb : ∀ k, R.C b k → k < w.heap.size → w'.heap[k]? = w.heap[k]?) : RpI w' b R :=
  ⟨h.box.kept (hb b (.inl rfl) h.box.lt), ownsRow_keep h.own (fun k hk hl => hb k (.inr hk) hl), h.ne, h.t0, h.t1, h.f0, h.f1, h.n1⟩
theorem RpI.below {w w' : World} {b : Nat} {R : Rp} (h : RpI w b R) (hb : Below w.heap.size w w') : RpI w' b R := h.kept fun k _ hl => hb.block k hl
theorem RpI.list {w : World} {b : Nat} {R : Rp} (h : RpI w b R) : LT.In elSh w (fun _ => True) R.sh :=
  own_in' (E := elSh) (l := R.sh) h.own (fun _ _ => trivial) (fun _ _ => trivial) (by have := h.n1; omega)
/-- where the cells of a snapshot lie -/
theorem RpI.at_ {w : World} {b : Nat} {R : Rp} (h : RpI w b R) (hn : 0 < R.sh.n) : ∃ g, R.sh.p = some ⟨g, 0, none⟩ ∧ g < w.heap.size ∧ R.lv.ownBlock = some g ∧ (∀ j, w.frozen? ⟨g, j, none⟩ = false) ∧ ∀ j, j < R.sh.n → ∀ r u, (elSh.cells (R.sh.item j))[r]? = some u → w.cell? ⟨g, j * 5 + r, none⟩ = some u := by
  obtain ⟨g, o, hp, _, hl, hat⟩ := h.list.at_ hn
  obtain ⟨hle, ⟨hv, h0⟩ | ⟨g2, cap, cur, hv, hb2, hh, hr⟩⟩ := id h.own
  · omega
  · unfold Rp.lv at hv
    simp only [Value.slice.injEq] at hv
    have hp2 := hv.1
    rw [hp] at hp2
    simp only [Option.some.injEq, Addr.mk.injEq] at hp2
    obtain ⟨rfl, rfl, _⟩ := hp2
    have hbx : Box w g cur 125 := hh
    refine ⟨g, hp, hl, by unfold Rp.lv; rw [hp]; rfl, fun j => hbx.frozen j, fun j hj r u hu => ?_⟩
    have := hat j hj r u hu
    rwa [show 0 + j * elSh.size + r = j * 5 + r by show 0 + j * 5 + r = _; omega] at this
def Rp.now (R : Rp) : Int := if 0 < R.sh.n ∧ (R.sh.item (R.sh.n - 1)).st = 1 then (R.sh.n : Int) - 1 else -1
def Rp.place (R : Rp) (id : Int) : Int := if id < R.first ∨ R.first + (R.sh.n : Int) ≤ id then -1 else id - R.first
set_option maxHeartbeats 4000000 in
theorem rnow_any (w : World) (b : Nat) (R : Rp) (hI : RpI w b R) : Calls Try.prog 59 #[.pointer (some ⟨b, 0, none⟩)] w fun e w' => e = .returned (.int .i64 R.now) ∧ w' = w := by
  have HI := hid hI
  have c1 := hI.box.cell 1
  have c3 := hI.box.cell 3
  have bl := hI.box.lt
  have hn1 := hI.n1
  have hf0 := hI.f0
  have hf1 := hI.f1
  simp [Rp.arr] at c1 c3
  by_cases h0 : 0 < R.sh.n
  rotate_left
  · have HE : Hid (R.now = -1) := if_neg (fun h => h0 h.1)
    have hz : R.sh.n = 0 := by omega
    rw [hz] at c3
    clear hI h0 hz
    go_enter Try.func59, Try.ntmps59
    go_wp2
    refine bodyPost_ret (v := .int .i64 (-1)) (by simp [results, Try.results59, go_sem]) rfl ?_
    exact ⟨by rw [HE.out], rfl⟩
  obtain ⟨g, hp, hgl, hob, hfz, hat⟩ := hI.at_ h0
  have r1 := hat (R.sh.n - 1) (by omega) 1 _ rfl
  obtain ⟨n, hn⟩ : ∃ n, R.sh.n = n + 1 := ⟨R.sh.n - 1, by omega⟩
  rw [hp, hn] at c3
  rw [hn, Nat.add_sub_cancel] at r1
  have hwi : IntKind.i64.wrap (n : Int) = (n : Int) := by rw [IntKind.wrap_i64]; omega
  by_cases h1 : (R.sh.item n).st = 1
  · have HE : Hid (R.now = (n : Int)) := by
      unfold Hid Rp.now
      rw [hn, Nat.add_sub_cancel, if_pos ⟨by omega, h1⟩]
      omega
    rw [h1] at r1
    clear hI h0 hat h1 hn hp hfz hob
    go_enter Try.func59, Try.ntmps59
    go_wp2
    refine bodyPost_ret (v := .int .i64 (n : Int)) (by simp [results, Try.results59, go_sem]) rfl ?_
    exact ⟨by rw [HE.out], rfl⟩
  · have HE : Hid (R.now = -1) := by
      unfold Hid Rp.now
      rw [hn, Nat.add_sub_cancel, if_neg (fun h => h1 h.2)]
    have h1' : ((R.sh.item n).st == 1) = false := by simp [h1]
    clear hI h0 hat h1 hn hp hfz hob
    go_enter Try.func59, Try.ntmps59
    go_wp2
    refine bodyPost_ret (v := .int .i64 (-1)) (by simp [results, Try.results59, go_sem]) rfl ?_
    exact ⟨by rw [HE.out], rfl⟩
set_option maxHeartbeats 4000000 in
theorem rplace_any (id : Int) (w : World) (b : Nat) (R : Rp) (hI : RpI w b R) : Calls Try.prog 62 #[.pointer (some ⟨b, 0, none⟩), .int .i64 id] w fun e w' => e = .returned (.int .i64 (R.place id)) ∧ Below w.heap.size w w' := by
  have HI := hid hI
  have c1 := hI.box.cell 1
  have c3 := hI.box.cell 3
  have bl := hI.box.lt
  have hn1 := hI.n1
  have hf0 := hI.f0
  have hf1 := hI.f1
  simp [Rp.arr] at c1 c3
  have hws : IntKind.i64.wrap (R.first + (R.sh.n : Int)) = R.first + (R.sh.n : Int) := by rw [IntKind.wrap_i64]; omega
  clear hI
  by_cases h0 : id < R.first
  · have HE : Hid (R.place id = -1) := if_pos (.inl h0)
    go_enter Try.func62, Try.ntmps62
    go_upto_region 1 with fail
    refine wp_region_calmD 30 (fun wx => Below w.heap.size w wx) [(0, true), (1, true), (2, true), (3, true), (4, false), (5, true), (6, true), (7, true), (8, true), (9, true), (10, true), (11, false), (12, true), (13, true), (14, true), (15, false), (16, true), (17, true), (18, true), (19, true)] [] (by kernel_rfl) (by kernel_rfl) (Below.refl _ _).drew ?_
    refine wpPre_e rfl rfl (fun K1 hK1 => ?_)
    apply Exists.intro
    refine And.intro (fun wx hx => ?_) ?_
    · go_simp
      try rfl
    go_simp
    refine hK1 _ ?_
    clear hK1 K1
    refine wpPre_e rfl rfl (fun K1 hK1 => ?_)
    apply Exists.intro
    refine And.intro (fun wx hx => ?_) ?_
    · go_simp
      try rfl
    go_simp
    refine hK1 _ ?_
    clear hK1 K1
    refine wpPre_e rfl rfl (fun K1 hK1 => ?_)
    apply Exists.intro
    refine And.intro (fun wx hx => ?_) ?_
    · go_simp
      try rfl
    go_simp
    refine hK1 _ ?_
    clear hK1 K1
    refine wpPre_e rfl rfl (fun K1 hK1 => ?_)
    apply Exists.intro
    refine And.intro (fun wx hx => ?_) ?_
    · go_simp
      try rfl
    go_simp
    refine hK1 _ ?_
    clear hK1 K1
    refine wpPre_e rfl rfl (fun K1 hK1 => ?_)
    apply Exists.intro
    refine And.intro (fun wx hx => ?_) ?_
    · have e0 := below_fact hx rfl c1
      have e1 := below_fact hx rfl c3
      go_simp
      try rfl
    go_simp
    refine hK1 _ ?_
    clear hK1 K1
    refine wpPre_e rfl rfl (fun K1 hK1 => ?_)
    apply Exists.intro
    refine And.intro (fun wx hx => ?_) ?_
    · go_simp
      try rfl
    go_simp
    refine hK1 _ ?_
    clear hK1 K1
    refine wpPre_e rfl rfl (fun K1 hK1 => ?_)
    apply Exists.intro
    refine And.intro (fun wx hx => ?_) ?_
    · go_simp
      try rfl
    go_simp
    refine hK1 _ ?_
    clear hK1 K1
    refine wpPre_i rfl (fun K1 hK1 => ?_)
    rw [if_neg (by go_simp; all_goals (intro h; cases h))]
    go_simp
    refine hK1 _ ?_
    clear hK1 K1
    refine wpPre_i rfl (fun K1 hK1 => ?_)
    rw [if_neg (by go_simp; all_goals (intro h; cases h))]
    go_simp
    refine hK1 _ ?_
    clear hK1 K1
    refine wpPre_i rfl (fun K1 hK1 => ?_)
    rw [if_neg (by go_simp; all_goals (intro h; cases h))]
    go_simp
    refine hK1 _ ?_
    clear hK1 K1
    refine wpPre_i rfl (fun K1 hK1 => ?_)
    rw [if_neg (by go_simp; all_goals (intro h; cases h))]
    go_simp
    refine hK1 _ ?_
    clear hK1 K1
    refine wpPre_i rfl (fun K1 hK1 => ?_)
    rw [if_neg (by go_simp; all_goals (intro h; cases h))]
    go_simp
    refine hK1 _ ?_
    clear hK1 K1
    refine wpPre_i rfl (fun K1 hK1 => ?_)
    rw [if_neg (by go_simp; all_goals (intro h; cases h))]
    go_simp
    refine hK1 _ ?_
    clear hK1 K1
    refine wpPre_i rfl (fun K1 hK1 => ?_)
    rw [if_neg (by go_simp; all_goals (intro h; cases h))]
    go_simp
    refine hK1 _ ?_
    clear hK1 K1
    refine wpPre_i rfl (fun K1 hK1 => ?_)
    rw [if_neg (by go_simp; all_goals (intro h; cases h))]
    go_simp
    refine hK1 _ ?_
    clear hK1 K1
    refine wpPre_i rfl (fun K1 hK1 => ?_)
    rw [if_neg (by go_simp; all_goals (intro h; cases h))]
    go_simp
    refine hK1 _ ?_
    clear hK1 K1
    refine wpPre_i rfl (fun K1 hK1 => ?_)
    rw [if_neg (by go_simp; all_goals (intro h; cases h))]
    go_simp
    refine hK1 _ ?_
    clear hK1 K1
    refine wpPre_i rfl (fun K1 hK1 => ?_)
    rw [if_neg (by go_simp; all_goals (intro h; cases h))]
    go_simp
    refine hK1 _ ?_
    clear hK1 K1
    refine wpPre_i rfl (fun K1 hK1 => ?_)
    rw [if_neg (by go_simp; all_goals (intro h; cases h))]
    go_simp
    refine hK1 _ ?_
    clear hK1 K1
    refine wpPre_e rfl rfl (fun K1 hK1 => ?_)
    apply Exists.intro
    refine And.intro (fun wx hx => ?_) ?_
    · go_simp
      try rfl
    go_simp
    refine hK1 _ ?_
    clear hK1 K1
    refine wpPre_nil ?_
    refine wpStg_nil ?_
    go_wp2
    refine bodyPost_ret (v := .int .i64 (-1)) (by simp [results, Try.results62, go_sem]) rfl ?_
    exact ⟨by rw [HE.out], (Below.refl _ _).drew⟩
  by_cases h1 : R.first + (R.sh.n : Int) ≤ id
  · have HE : Hid (R.place id = -1) := if_pos (.inr h1)
    go_enter Try.func62, Try.ntmps62
    go_upto_region 1 with fail
    refine wp_region_calmD 30 (fun wx => Below w.heap.size w wx) [(0, true), (1, true), (2, true), (3, true), (4, false), (5, true), (6, true), (7, true), (8, true), (9, true), (10, true), (11, false), (12, true), (13, true), (14, true), (15, false), (16, true), (17, true), (18, true), (19, true)] [] (by kernel_rfl) (by kernel_rfl) (Below.refl _ _).drew ?_
    refine wpPre_e rfl rfl (fun K1 hK1 => ?_)
    apply Exists.intro
    refine And.intro (fun wx hx => ?_) ?_
    · go_simp
      try rfl
    go_simp
    refine hK1 _ ?_
    clear hK1 K1
    refine wpPre_e rfl rfl (fun K1 hK1 => ?_)
    apply Exists.intro
    refine And.intro (fun wx hx => ?_) ?_
    · go_simp
      try rfl
    go_simp
    refine hK1 _ ?_
    clear hK1 K1
    refine wpPre_e rfl rfl (fun K1 hK1 => ?_)
    apply Exists.intro
    refine And.intro (fun wx hx => ?_) ?_
    · go_simp
      try rfl
    go_simp
    refine hK1 _ ?_
    clear hK1 K1
    refine wpPre_e rfl rfl (fun K1 hK1 => ?_)
    apply Exists.intro
    refine And.intro (fun wx hx => ?_) ?_
    · go_simp
      try rfl
    go_simp
    refine hK1 _ ?_
    clear hK1 K1
    refine wpPre_e rfl rfl (fun K1 hK1 => ?_)
    apply Exists.intro
    refine And.intro (fun wx hx => ?_) ?_
    · have e0 := below_fact hx rfl c1
      have e1 := below_fact hx rfl c3
      go_simp
      try rfl
    go_simp
    refine hK1 _ ?_
    clear hK1 K1
    refine wpPre_e rfl rfl (fun K1 hK1 => ?_)
    apply Exists.intro
    refine And.intro (fun wx hx => ?_) ?_
    · go_simp
      try rfl
    go_simp
    refine hK1 _ ?_
    clear hK1 K1
    refine wpPre_e rfl rfl (fun K1 hK1 => ?_)
    apply Exists.intro
    refine And.intro (fun wx hx => ?_) ?_
    · go_simp
      try rfl
    go_simp
    refine hK1 _ ?_
    clear hK1 K1
    refine wpPre_i rfl (fun K1 hK1 => ?_)
    rw [if_pos (by go_simp)]
    apply Exists.intro
    refine And.intro (fun wx hx => ?_) ?_
    · go_simp
      try rfl
    go_simp
    refine hK1 _ ?_
    clear hK1 K1
    refine wpPre_i rfl (fun K1 hK1 => ?_)
    rw [if_pos (by go_simp)]
    apply Exists.intro
    refine And.intro (fun wx hx => ?_) ?_
    · go_simp
      try rfl
    go_simp
    refine hK1 _ ?_
    clear hK1 K1
    refine wpPre_i rfl (fun K1 hK1 => ?_)
    rw [if_pos (by go_simp)]
    apply Exists.intro
    refine And.intro (fun wx hx => ?_) ?_
    · go_simp
      try rfl
    go_simp
    refine hK1 _ ?_
    clear hK1 K1
    refine wpPre_i rfl (fun K1 hK1 => ?_)
    rw [if_pos (by go_simp)]
    apply Exists.intro
    refine And.intro (fun wx hx => ?_) ?_
    · go_simp
      try rfl
    go_simp
    refine hK1 _ ?_
    clear hK1 K1
    refine wpPre_i rfl (fun K1 hK1 => ?_)
    rw [if_pos (by go_simp)]
    apply Exists.intro
    refine And.intro (fun wx hx => ?_) ?_
    · have e0 := below_fact hx rfl c1
      have e1 := below_fact hx rfl c3
      go_simp
      try rfl
    go_simp
    refine hK1 _ ?_
    clear hK1 K1
    refine wpPre_i rfl (fun K1 hK1 => ?_)
    rw [if_pos (by go_simp)]
    apply Exists.intro
    refine And.intro (fun wx hx => ?_) ?_
    · go_simp
      try rfl
    go_simp
    refine hK1 _ ?_
    clear hK1 K1
    refine wpPre_i rfl (fun K1 hK1 => ?_)
    rw [if_pos (by go_simp)]
    apply Exists.intro
    refine And.intro (fun wx hx => ?_) ?_
    · go_simp
      try rfl
    go_simp
    refine hK1 _ ?_
    clear hK1 K1
    refine wpPre_i rfl (fun K1 hK1 => ?_)
    rw [if_pos (by go_simp)]
    apply Exists.intro
    refine And.intro (fun wx hx => ?_) ?_
    · go_simp
      try rfl
    go_simp
    refine hK1 _ ?_
    clear hK1 K1
    refine wpPre_i rfl (fun K1 hK1 => ?_)
    rw [if_pos (by go_simp)]
    apply Exists.intro
    refine And.intro (fun wx hx => ?_) ?_
    · have e0 := below_fact hx rfl c1
      have e1 := below_fact hx rfl c3
      go_simp
      try rfl
    go_simp
    refine hK1 _ ?_
    clear hK1 K1
    refine wpPre_i rfl (fun K1 hK1 => ?_)
    rw [if_pos (by go_simp)]
    apply Exists.intro
    refine And.intro (fun wx hx => ?_) ?_
    · go_simp
      try rfl
    go_simp
    refine hK1 _ ?_
    clear hK1 K1
    refine wpPre_i rfl (fun K1 hK1 => ?_)
    rw [if_pos (by go_simp)]
    apply Exists.intro
    refine And.intro (fun wx hx => ?_) ?_
    · go_simp
      try rfl
    go_simp
    refine hK1 _ ?_
    clear hK1 K1
    refine wpPre_i rfl (fun K1 hK1 => ?_)
    rw [if_pos (by go_simp)]
    apply Exists.intro
    refine And.intro (fun wx hx => ?_) ?_
    · go_simp
      try rfl
    go_simp
    refine hK1 _ ?_
    clear hK1 K1
    refine wpPre_e rfl rfl (fun K1 hK1 => ?_)
    apply Exists.intro
    refine And.intro (fun wx hx => ?_) ?_
    · go_simp
      try rfl
    go_simp
    refine hK1 _ ?_
    clear hK1 K1
    refine wpPre_nil ?_
    refine wpStg_nil ?_
    go_wp2
    refine bodyPost_ret (v := .int .i64 (-1)) (by simp [results, Try.results62, go_sem]) rfl ?_
    exact ⟨by rw [HE.out], (Below.refl _ _).drew⟩
  have HE : Hid (R.place id = id - R.first) := if_neg (by omega)
  have hwd : IntKind.i64.wrap (id - R.first) = id - R.first := by rw [IntKind.wrap_i64]; omega
  have h1q : ¬ R.first + (R.sh.n : Int) ≤ id := h1
  go_enter Try.func62, Try.ntmps62
  go_upto_region 1 with fail
  refine wp_region_calmD 30 (fun wx => Below w.heap.size w wx) [(0, true), (1, true), (2, true), (3, true), (4, false), (5, true), (6, true), (7, true), (8, true), (9, true), (10, true), (11, false), (12, true), (13, true), (14, true), (15, false), (16, true), (17, true), (18, true), (19, true)] [] (by kernel_rfl) (by kernel_rfl) (Below.refl _ _).drew ?_
  refine wpPre_e rfl rfl (fun K1 hK1 => ?_)
  apply Exists.intro
  refine And.intro (fun wx hx => ?_) ?_
  · go_simp
    try rfl
  go_simp
  refine hK1 _ ?_
  clear hK1 K1
  refine wpPre_e rfl rfl (fun K1 hK1 => ?_)
  apply Exists.intro
  refine And.intro (fun wx hx => ?_) ?_
  · go_simp
    try rfl
  go_simp
  refine hK1 _ ?_
  clear hK1 K1
  refine wpPre_e rfl rfl (fun K1 hK1 => ?_)
  apply Exists.intro
  refine And.intro (fun wx hx => ?_) ?_
  · go_simp
    try rfl
  go_simp
  refine hK1 _ ?_
  clear hK1 K1
  refine wpPre_e rfl rfl (fun K1 hK1 => ?_)
  apply Exists.intro
  refine And.intro (fun wx hx => ?_) ?_
  · go_simp
    try rfl
  go_simp
  refine hK1 _ ?_
  clear hK1 K1
  refine wpPre_e rfl rfl (fun K1 hK1 => ?_)
  apply Exists.intro
  refine And.intro (fun wx hx => ?_) ?_
  · have e0 := below_fact hx rfl c1
    have e1 := below_fact hx rfl c3
    go_simp
    try rfl
  go_simp
  refine hK1 _ ?_
  clear hK1 K1
  refine wpPre_e rfl rfl (fun K1 hK1 => ?_)
  apply Exists.intro
  refine And.intro (fun wx hx => ?_) ?_
  · go_simp
    try rfl
  go_simp
  refine hK1 _ ?_
  clear hK1 K1
  refine wpPre_e rfl rfl (fun K1 hK1 => ?_)
  apply Exists.intro
  refine And.intro (fun wx hx => ?_) ?_
  · go_simp
    try rfl
  go_simp
  refine hK1 _ ?_
  clear hK1 K1
  refine wpPre_i rfl (fun K1 hK1 => ?_)
  rw [if_pos (by go_simp)]
  apply Exists.intro
  refine And.intro (fun wx hx => ?_) ?_
  · go_simp
    try rfl
  go_simp
  refine hK1 _ ?_
  clear hK1 K1
  refine wpPre_i rfl (fun K1 hK1 => ?_)
  rw [if_pos (by go_simp)]
  apply Exists.intro
  refine And.intro (fun wx hx => ?_) ?_
  · go_simp
    try rfl
  go_simp
  refine hK1 _ ?_
  clear hK1 K1
  refine wpPre_i rfl (fun K1 hK1 => ?_)
  rw [if_pos (by go_simp)]
  apply Exists.intro
  refine And.intro (fun wx hx => ?_) ?_
  · go_simp
    try rfl
  go_simp
  refine hK1 _ ?_
  clear hK1 K1
  refine wpPre_i rfl (fun K1 hK1 => ?_)
  rw [if_pos (by go_simp)]
  apply Exists.intro
  refine And.intro (fun wx hx => ?_) ?_
  · go_simp
    try rfl
  go_simp
  refine hK1 _ ?_
  clear hK1 K1
  refine wpPre_i rfl (fun K1 hK1 => ?_)
  rw [if_pos (by go_simp)]
  apply Exists.intro
  refine And.intro (fun wx hx => ?_) ?_
  · have e0 := below_fact hx rfl c1
    have e1 := below_fact hx rfl c3
    go_simp
    try rfl
  go_simp
  refine hK1 _ ?_
  clear hK1 K1
  refine wpPre_i rfl (fun K1 hK1 => ?_)
  rw [if_pos (by go_simp)]
  apply Exists.intro
  refine And.intro (fun wx hx => ?_) ?_
  · go_simp
    try rfl
  go_simp
  refine hK1 _ ?_
  clear hK1 K1
  refine wpPre_i rfl (fun K1 hK1 => ?_)
  rw [if_pos (by go_simp)]
  apply Exists.intro
  refine And.intro (fun wx hx => ?_) ?_
  · go_simp
    try rfl
  go_simp
  refine hK1 _ ?_
  clear hK1 K1
  refine wpPre_i rfl (fun K1 hK1 => ?_)
  rw [if_pos (by go_simp)]
  apply Exists.intro
  refine And.intro (fun wx hx => ?_) ?_
  · go_simp
    try rfl
  go_simp
  refine hK1 _ ?_
  clear hK1 K1
  refine wpPre_i rfl (fun K1 hK1 => ?_)
  rw [if_pos (by go_simp)]
  apply Exists.intro
  refine And.intro (fun wx hx => ?_) ?_
  · have e0 := below_fact hx rfl c1
    have e1 := below_fact hx rfl c3
    go_simp
    try rfl
  go_simp
  refine hK1 _ ?_
  clear hK1 K1
  refine wpPre_i rfl (fun K1 hK1 => ?_)
  rw [if_pos (by go_simp)]
  apply Exists.intro
  refine And.intro (fun wx hx => ?_) ?_
  · go_simp
    try rfl
  go_simp
  refine hK1 _ ?_
  clear hK1 K1
  refine wpPre_i rfl (fun K1 hK1 => ?_)
  rw [if_pos (by go_simp)]
  apply Exists.intro
  refine And.intro (fun wx hx => ?_) ?_
  · go_simp
    try rfl
  go_simp
  refine hK1 _ ?_
  clear hK1 K1
  refine wpPre_i rfl (fun K1 hK1 => ?_)
  rw [if_pos (by go_simp)]
  apply Exists.intro
  refine And.intro (fun wx hx => ?_) ?_
  · go_simp
    try rfl
  go_simp
  refine hK1 _ ?_
  clear hK1 K1
  refine wpPre_e rfl rfl (fun K1 hK1 => ?_)
  apply Exists.intro
  refine And.intro (fun wx hx => ?_) ?_
  · go_simp
    try rfl
  go_simp
  refine hK1 _ ?_
  clear hK1 K1
  refine wpPre_nil ?_
  refine wpStg_nil ?_
  go_wp2
  refine bodyPost_ret (v := .int .i64 (id - R.first)) (by simp [results, Try.results62, go_sem]) rfl ?_
  exact ⟨by rw [HE.out], (Below.refl _ _).drew⟩
end Go.Proofs.Ytldkepokcbjlpaa

namespace Go.Proofs.Ytldkepokcbjlpaa
open Go.RowKit Go.Conc
set_option maxRecDepth 60000
theorem ownsRow_putG {w : World} {base : Nat} {e : TypeId} {size : Nat} {p : Option Addr} {n c : Nat} {xs : List Value} {g k : Nat} (h : w.ownsRow base e size (.slice p n c) n xs) (hp : p = some ⟨g, 0, none⟩) (u : Value) : (w.setCell ⟨g, k, none⟩ u).ownsRow base e size (.slice p n c) n (xs.set k u) := by
  obtain ⟨hl, ⟨hv, h0⟩ | ⟨g2, cap, cur, hv, hb, hh, hnc, hcm, hcs, ht⟩⟩ := h
  · simp only [Value.slice.injEq] at hv
    rw [hv.1] at hp; cases hp
  · simp only [Value.slice.injEq] at hv
    obtain ⟨rfl, _, rfl⟩ := hv
    simp only [Option.some.injEq, Addr.mk.injEq] at hp
    obtain ⟨rfl, _, _⟩ := hp
    refine ⟨by rw [List.length_set]; exact hl, .inr ⟨g2, c, cur.setIfInBounds k u, rfl, hb, ?_, hnc, hcm, by simpa using hcs, ?_⟩⟩
    · have hb2 : Box w g2 cur e := hh
      exact hb2.set k u
    · rw [Array.toList_setIfInBounds, ← ht, List.take_set]
theorem rowsS_set (l : LT Rs) {i r : Nat} (hi : i < l.n) (hr : r < 5) (u : Value) (x : Rs) (hx : elSh.cells x = (elSh.cells (l.item i)).set r u) : (rowsS l).set (i * 5 + r) u = rowsS { l with item := fun j => if j = i then x else l.item j } := by
  have h1 := range_flat_get elSh l.item l.n
  have h2 := range_flat_get elSh (fun j => if j = i then x else l.item j) l.n
  have hs : elSh.size = 5 := rfl
  apply List.ext_getElem?
  intro k
  rw [List.getElem?_set]
  have hlen : (rowsS l).length = l.n * 5 := range_flat_len elSh l.item l.n
  by_cases hk : k < l.n * 5
  · obtain ⟨j, q, hj, hq, rfl⟩ : ∃ j q, j < l.n ∧ q < 5 ∧ k = j * 5 + q := ⟨k / 5, k % 5, by omega, by omega, by omega⟩
    have e2 : (rowsS { l with item := fun j => if j = i then x else l.item j })[j * 5 + q]? = (elSh.cells (if j = i then x else l.item j))[q]? := h2 j q hj hq
    have e1 : (rowsS l)[j * 5 + q]? = (elSh.cells (l.item j))[q]? := h1 j q hj hq
    rw [e2, e1]
    by_cases hji : j = i
    · subst hji
      rw [if_pos rfl, hx, List.getElem?_set]
      by_cases hqr : r = q
      · subst hqr
        rw [if_pos rfl, if_pos rfl, hlen, if_pos (by omega), if_pos (by rw [elSh.len]; exact hr)]
      · rw [if_neg (by omega), if_neg hqr]
    · rw [if_neg hji, if_neg (by omega)]
  · rw [List.getElem?_eq_none (by rw [hlen]; omega), List.getElem?_eq_none (by
      have : (rowsS { l with item := fun j => if j = i then x else l.item j }).length = l.n * 5 := range_flat_len elSh (fun j => if j = i then x else l.item j) l.n
      rw [this]; omega)]
    split
    · rw [if_neg (by rw [hlen]; omega)]
    · rfl
def Rp.put (R : Rp) (i : Nat) (x : Rs) : Rp := { R with sh := { R.sh with item := fun j => if j = i then x else R.sh.item j } }
structure RSet (w : World) (b : Nat) (R : Rp) (w' : World) (R' : Rp) : Prop where
  inv : RpI w' b R'
  but : But (R.C b) w w'
  cs : ∀ k, R'.C b k → R.C b k ∨ w.heap.size ≤ k
theorem RSet.same {w w' : World} {b : Nat} {R : Rp} (h : RpI w b R) (hb : Below w.heap.size w w') : RSet w b R w' R := ⟨h.below hb, But.ofBelow hb, fun _ hk => .inl hk⟩
theorem RSet.trans {w w1 w2 : World} {b : Nat} {R R1 R2 : Rp} (h : RSet w b R w1 R1) (g : RSet w1 b R1 w2 R2) : RSet w b R w2 R2 := by
  refine ⟨g.inv, ⟨g.but.os.trans h.but.os, g.but.tape.trans h.but.tape, g.but.output.trans h.but.output, Nat.le_trans h.but.size g.but.size, fun k hl hn => ?_⟩, fun k hk => ?_⟩
  · exact (g.but.block k (Nat.lt_of_lt_of_le hl h.but.size) (fun e => by rcases h.cs k e with h1 | h1; exact hn h1; omega)).trans (h.but.block k hl hn)
  · rcases g.cs k hk with h1 | h1
    · exact h.cs k h1
    · exact .inr (Nat.le_trans h.but.size h1)
theorem RpI.put {w : World} {b g i r : Nat} {R : Rp} {x : Rs} {u : Value} (h : RpI w b R) (hp : R.sh.p = some ⟨g, 0, none⟩) (hi : i < R.sh.n) (hr : r < 5) (hx : elSh.cells x = (elSh.cells (R.sh.item i)).set r u) : RSet w b R (w.setCell ⟨g, i * 5 + r, none⟩ u) (R.put i x) := by
  have hob : R.lv.ownBlock = some g := by unfold Rp.lv; rw [hp]; rfl
  have hgb : g ≠ b := fun e => h.ne (by rw [hob, e])
  have hbt : But (fun k => k = g) w (w.setCell ⟨g, i * 5 + r, none⟩ u) := (But.one w g).setAt _ _
  have ho := ownsRow_putG (k := i * 5 + r) h.own hp u
  rw [rowsS_set R.sh hi hr u x hx] at ho
  exact ⟨⟨h.box.kept (hbt.block b h.box.lt (fun e => hgb e.symm)), ho, h.ne, h.t0, h.t1, h.f0, h.f1, h.n1⟩, ⟨hbt.os, hbt.tape, hbt.output, hbt.size, fun k hl hn => hbt.block k hl (fun e => hn (.inr (by rw [e]; exact hob)))⟩, fun k hk => .inl hk⟩
def Rp.stat (R : Rp) (id : Int) : Int := if id < R.first ∨ R.first + (R.sh.n : Int) ≤ id then 0 else (R.sh.item (id - R.first).toNat).st
set_option maxHeartbeats 4000000 in
theorem rstat_any (id : Int) (w : World) (b : Nat) (R : Rp) (hI : RpI w b R) : Calls Try.prog 48 #[.pointer (some ⟨b, 0, none⟩), .int .i64 id] w fun e w' => e = .returned (.int .i64 (R.stat id)) ∧ Below w.heap.size w w' := by
  have HI := hid hI
  have c0 := hI.box.cell 0
  have c1 := hI.box.cell 1
  have c3 := hI.box.cell 3
  have bl := hI.box.lt
  have hn1 := hI.n1
  have hf0 := hI.f0
  have hf1 := hI.f1
  simp [Rp.arr] at c0 c1 c3
  have HP := hid (rplace_any id w b R hI)
  by_cases h0 : id < R.first ∨ R.first + (R.sh.n : Int) ≤ id
  · have HE : Hid (R.stat id = 0) := if_pos h0
    have HE2 : Hid (R.place id = -1) := if_pos h0
    clear hI h0
    go_enter Try.func48, Try.ntmps48
    go_wp2_with fail
    refine HP.out.mono ?_
    rintro e w1 ⟨rfl, hb1⟩
    rw [HE2.out]
    go_wp2
    refine bodyPost_ret (v := .int .i64 0) (by simp [results, Try.results48, go_sem]) rfl ?_
    exact ⟨by rw [HE.out], hb1⟩
  obtain ⟨i, hi, hin⟩ : ∃ i : Nat, id - R.first = (i : Int) ∧ i < R.sh.n := ⟨(id - R.first).toNat, by omega, by omega⟩
  have HE : Hid (R.stat id = (R.sh.item i).st) := by
    unfold Hid Rp.stat
    rw [if_neg h0, hi, Int.toNat_natCast]
  have HE2 : Hid (R.place id = (i : Int)) := by
    unfold Hid Rp.place
    rw [if_neg h0, hi]
  obtain ⟨g, hp, hgl, hob, hfz, hat⟩ := hI.at_ (by omega)
  have r1 := hat i hin 1 _ rfl
  have hin' : (i : Int) < (R.sh.n : Int) := by omega
  have hi0 : ¬ (i : Int) < 0 := by omega
  rw [hp] at c3
  clear hI h0 hat hfz hob hi hp
  go_enter Try.func48, Try.ntmps48
  go_wp2_with fail
  refine HP.out.mono ?_
  rintro e w1 ⟨rfl, hb1⟩
  rw [HE2.out]
  have c3 := (World.cell?_of_block (a := ⟨b, 3, none⟩) (hb1.block _ bl)).trans c3
  have r1 := (World.cell?_of_block (a := ⟨g, i * 5 + 1, none⟩) (hb1.block _ hgl)).trans r1
  have bl := Nat.lt_of_lt_of_le bl hb1.size
  have hgl := Nat.lt_of_lt_of_le hgl hb1.size
  have HB := hid hb1
  clear hb1
  go_wp2
  refine bodyPost_ret (v := .int .i64 (R.sh.item i).st) (by simp [results, Try.results48, go_sem]) rfl ?_
  exact ⟨by rw [HE.out], HB.out⟩
def Rs.set (x : Rs) (v : Int) : Rs := { x with st := v }
structure RSettQ (id : Int) (ok : Bool) (w : World) (b : Nat) (R : Rp) (e : Ending) (w' : World) (R' : Rp) : Prop where
  s : RSet w b R w' R'
  n : ¬ R.stat id = 2 → R' = R ∧ e = .returned (.int .i64 147)
  y : R.stat id = 2 → e = .returned (.int .i64 0) ∧ R' = R.put (id - R.first).toNat ((R.sh.item (id - R.first).toNat).set (if ok then 3 else 4))
theorem Rp.put_put (R : Rp) (i : Nat) (x y : Rs) : (R.put i x).put i y = R.put i y := by
  unfold Rp.put
  simp only [Rp.mk.injEq, LT.mk.injEq, true_and]
  funext j
  by_cases e : j = i
  · rw [if_pos e, if_pos e]
  · rw [if_neg e, if_neg e, if_neg e]
set_option maxHeartbeats 8000000 in
theorem rsettle_any (id : Int) (ok : Bool) (w : World) (b : Nat) (R : Rp) (hI : RpI w b R) : Calls Try.prog 47 #[.pointer (some ⟨b, 0, none⟩), .int .i64 id, .bool ok] w fun e w' => ∃ R', RSettQ id ok w b R e w' R' := by
  have HI := hid hI
  have c0 := hI.box.cell 0
  have c1 := hI.box.cell 1
  have c3 := hI.box.cell 3
  have bl := hI.box.lt
  have hn1 := hI.n1
  have hf0 := hI.f0
  have hf1 := hI.f1
  simp [Rp.arr] at c0 c1 c3
  have HP := hid (rplace_any id w b R hI)
  by_cases h0 : id < R.first ∨ R.first + (R.sh.n : Int) ≤ id
  · have HE : Hid (¬ R.stat id = 2) := by unfold Hid Rp.stat; rw [if_pos h0]; omega
    have HE2 : Hid (R.place id = -1) := if_pos h0
    clear hI h0
    go_enter Try.func47, Try.ntmps47
    go_wp2_with fail
    refine HP.out.mono ?_
    rintro e w1 ⟨rfl, hb1⟩
    rw [HE2.out]
    go_wp2
    refine bodyPost_ret (v := .int .i64 147) (by simp [results, Try.results47, go_sem]) rfl ?_
    exact ⟨R, RSet.same HI.out hb1, fun _ => ⟨rfl, rfl⟩, fun h => absurd h HE.out⟩
  obtain ⟨i, hi, hin⟩ : ∃ i : Nat, id - R.first = (i : Int) ∧ i < R.sh.n := ⟨(id - R.first).toNat, by omega, by omega⟩
  have HE : Hid (R.stat id = (R.sh.item i).st) := by
    unfold Hid Rp.stat
    rw [if_neg h0, hi, Int.toNat_natCast]
  have HE2 : Hid (R.place id = (i : Int)) := by
    unfold Hid Rp.place
    rw [if_neg h0, hi]
  have HTn : Hid ((id - R.first).toNat = i) := by unfold Hid; omega
  obtain ⟨g, hp, hgl, hob, hfz, hat⟩ := hI.at_ (by omega)
  have r1 := hat i hin 1 _ rfl
  have fr := hfz (i * 5 + 1)
  have hin' : (i : Int) < (R.sh.n : Int) := by omega
  have hi0 : ¬ (i : Int) < 0 := by omega
  rw [hp] at c3
  have HGp := hid hp
  have hgb : g ≠ b := fun e => HI.out.ne (by rw [hob, e])
  have hgb' : b ≠ g := fun e => hgb e.symm
  clear hI h0 hat hfz hob hi hp
  go_enter Try.func47, Try.ntmps47
  go_wp2_with fail
  refine HP.out.mono ?_
  rintro e w1 ⟨rfl, hb1⟩
  rw [HE2.out]
  have c3 := (World.cell?_of_block (a := ⟨b, 3, none⟩) (hb1.block _ bl)).trans c3
  have r1 := (World.cell?_of_block (a := ⟨g, i * 5 + 1, none⟩) (hb1.block _ hgl)).trans r1
  have HI1 := hid (HI.out.below hb1)
  have HS1 := hid (RSet.same HI.out hb1)
  obtain ⟨g', hp', hgl', _, hfz', _⟩ := HI1.out.at_ (by omega)
  have hgg : g' = g := by rw [HGp.out] at hp'; simpa using hp'.symm
  subst hgg
  have fr := hfz' (i * 5 + 1)
  have bl := Nat.lt_of_lt_of_le bl hb1.size
  clear hb1 hgl hfz' hp'
  by_cases h2 : (R.sh.item i).st = 2
  rotate_left
  · have h2' : ((R.sh.item i).st != 2) = true := by simp [h2]
    have HN : Hid (¬ R.stat id = 2) := by unfold Hid; rw [HE.out]; exact h2
    clear h2
    go_wp2
    refine bodyPost_ret (v := .int .i64 147) (by simp [results, Try.results47, go_sem]) rfl ?_
    exact ⟨R, HS1.out, fun _ => ⟨rfl, rfl⟩, fun h => absurd h HN.out⟩
  have HY : Hid (R.stat id = 2) := by unfold Hid; rw [HE.out]; exact h2
  rw [h2] at r1
  clear h2
  cases ok
  · go_wp2
    refine bodyPost_ret (v := .int .i64 0) (by simp [results, Try.results47, go_sem]) rfl ?_
    refine ⟨_, HS1.out.trans (HI1.out.put (x := (R.sh.item i).set 4) HGp.out hin (by omega) rfl), fun h => absurd HY.out h, fun _ => ⟨rfl, ?_⟩⟩
    rw [HTn.out]; rfl
  · go_wp2
    refine bodyPost_ret (v := .int .i64 0) (by simp [results, Try.results47, go_sem]) rfl ?_
    have k1 := HI1.out.put (x := (R.sh.item i).set 4) (u := .int .i64 4) (r := 1) HGp.out hin (by omega) rfl
    have k2 := k1.inv.put (x := (R.sh.item i).set 3) (u := .int .i64 3) (r := 1) (i := i) HGp.out hin (by omega) (by
      show elSh.cells _ = (elSh.cells (if i = i then (R.sh.item i).set 4 else R.sh.item i)).set 1 _
      rw [if_pos rfl]; rfl)
    rw [Rp.put_put] at k2
    refine ⟨_, HS1.out.trans (k1.trans k2), fun h => absurd HY.out h, fun _ => ⟨rfl, ?_⟩⟩
    rw [HTn.out]; rfl
structure RAbQ (w : World) (b : Nat) (R : Rp) (e : Ending) (w' : World) (R' : Rp) : Prop where
  s : RSet w b R w' R'
  n : R.now = -1 → R' = R ∧ e = .returned (.tuple #[.int .i64 0, .int .i64 146])
  y : ∀ n : Nat, R.now = (n : Int) → e = .returned (.tuple #[.int .i64 (R.sh.item n).id, .int .i64 0]) ∧ R' = R.put n ((R.sh.item n).set 4)
theorem Rp.now_cases (R : Rp) : R.now = -1 ∨ ∃ n : Nat, R.now = (n : Int) ∧ n < R.sh.n ∧ n + 1 = R.sh.n := by
  unfold Rp.now
  split
  · rename_i h
    exact .inr ⟨R.sh.n - 1, by omega, by omega, by omega⟩
  · exact .inl rfl
set_option maxHeartbeats 8000000 in
theorem rabort_any (w : World) (b : Nat) (R : Rp) (hI : RpI w b R) : Calls Try.prog 46 #[.pointer (some ⟨b, 0, none⟩)] w fun e w' => ∃ R', RAbQ w b R e w' R' := by
  have HI := hid hI
  have c0 := hI.box.cell 0
  have c1 := hI.box.cell 1
  have c3 := hI.box.cell 3
  have bl := hI.box.lt
  have hn1 := hI.n1
  have hf0 := hI.f0
  have hf1 := hI.f1
  simp [Rp.arr] at c0 c1 c3
  have HN := hid (rnow_any w b R hI)
  rcases R.now_cases with h0 | ⟨i, h0, hin, _⟩
  · have HE := hid h0
    clear hI h0
    go_enter Try.func46, Try.ntmps46
    go_wp2_with fail
    refine HN.out.mono ?_
    rintro e w1 ⟨rfl, rfl⟩
    rw [HE.out]
    go_wp2
    refine bodyPost_ret (v := .tuple #[.int .i64 0, .int .i64 146]) (by simp [results, Try.results46, go_sem]) rfl ?_
    exact ⟨R, RSet.same HI.out (Below.refl _ _), fun _ => ⟨rfl, rfl⟩, fun n h => by rw [HE.out] at h; omega⟩
  have HE := hid h0
  obtain ⟨g, hp, hgl, hob, hfz, hat⟩ := hI.at_ (by omega)
  have r0 : w.cell? ⟨g, i * 5, none⟩ = some (.int .i64 (R.sh.item i).id) := hat i hin 0 _ rfl
  have r1 := hat i hin 1 _ rfl
  have fr := hfz (i * 5 + 1)
  have hin' : (i : Int) < (R.sh.n : Int) := by omega
  have hi0 : ¬ (i : Int) < 0 := by omega
  rw [hp] at c3
  have HGp := hid hp
  have hgb : g ≠ b := fun e => HI.out.ne (by rw [hob, e])
  have hgb' : b ≠ g := fun e => hgb e.symm
  clear hI h0 hat hfz hob hp
  go_enter Try.func46, Try.ntmps46
  go_wp2_with fail
  refine HN.out.mono ?_
  rintro e w1 ⟨rfl, rfl⟩
  rw [HE.out]
  go_wp2
  refine bodyPost_ret (v := .tuple #[.int .i64 (R.sh.item i).id, .int .i64 0]) (by simp [results, Try.results46, go_sem]) rfl ?_
  refine ⟨_, HI.out.put (x := (R.sh.item i).set 4) HGp.out hin (by omega) rfl, fun h => by rw [HE.out] at h; omega, fun n h => ?_⟩
  obtain rfl : n = i := by rw [HE.out] at h; omega
  exact ⟨rfl, rfl⟩
def Rs.new (id : Int) : Rs := ⟨id, 1, none, 0, 0, none, 0, 0, 0⟩
def Rp.push (R : Rp) (p : Option Addr) (c : Nat) : Rp := { R with sh := R.sh.push p c (Rs.new (R.first + (R.sh.n : Int))) }
def Rp.trigE (R : Rp) : Int := if 0 ≤ R.now then 141 else if 9999 < R.first + (R.sh.n : Int) then 142 else 0
structure RTrQ (w : World) (b : Nat) (R : Rp) (e : Ending) (w' : World) (R' : Rp) : Prop where
  s : RSet w b R w' R'
  n : ¬ R.trigE = 0 → R' = R ∧ e = .returned (.tuple #[.int .i64 0, .int .i64 R.trigE])
  y : R.trigE = 0 → e = .returned (.tuple #[.int .i64 (R.first + (R.sh.n : Int)), .int .i64 0]) ∧ ∃ p c, R' = R.push p c
theorem kindSh : ∃ i, Kind 104 125 i (.agg #[.int .i64 0, .int .i64 0, .slice none 0 0, .slice none 0 0, .int .i64 0]) 5 72 := by
  obtain ⟨i0, hi, hz0, hz1, hz2⟩ := info_parts (show (Try.prog.info? 125).map (fun i => (i.zero, i.size, i.bytes)) = some (some (.agg #[.int .i64 0, .int .i64 0, .slice none 0 0, .slice none 0 0, .int .i64 0]), 5, 72) by kernel_rfl)
  exact ⟨i0, Try.underlying104, hi, hz0, hz1, hz2, rfl, by decide⟩
theorem rowsS_push (l : LT Rs) (p : Option Addr) (c : Nat) (u : Rs) : rowsS (l.push p c u) = rowsS l ++ elSh.cells u := by
  unfold rowsS LT.push
  simp only
  rw [List.range_succ, List.flatMap_append]
  congr 1
  · rw [List.flatMap_def, List.flatMap_def]
    congr 1
    apply List.map_congr_left
    intro j hj
    rw [if_pos (List.mem_range.1 hj)]
  · simp
theorem RpI.pushed {w w1 w2 : World} {b : Nat} {R : Rp} {p : Option Addr} {c : Nat} (h : RpI w b R) (hn : (R.sh.n : Int) + 1 ≤ 10000) (hb : Below w.heap.size w w1) (ho : w2.ownsRow 0 125 5 (.slice p (R.sh.n + 1) c) (R.sh.n + 1) (rowsS R.sh ++ elSh.cells (Rs.new (R.first + (R.sh.n : Int))))) (hg : w1.grownBy w2 R.lv.ownBlock) (hnr : Near w1 R.lv (.slice p (R.sh.n + 1) c)) :
    RSet w b R (w2.setCell ⟨b, 3, none⟩ (.slice p (R.sh.n + 1) c)) (R.push p c) := by
  have h1 := h.below hb
  have hbx : Box w2 b R.arr 106 := h1.box.kept (hg.block b h1.box.lt (fun e => h.ne e.symm))
  have hvb : (Value.slice p (R.sh.n + 1) c).ownBlock ≠ some b := fun e => by
    rcases hnr with h2 | h2
    · exact h.ne (by rw [← h2]; exact e)
    · have := h2 b e; have := h1.box.lt; omega
  rw [← rowsS_push R.sh p c _] at ho
  refine ⟨⟨?_, ?_, hvb, h.t0, h.t1, h.f0, h.f1, ?_⟩, ⟨?_, ?_, ?_, ?_, fun k hl hk => ?_⟩, fun k hk => ?_⟩
  · have := hbx.set 3 (.slice p (R.sh.n + 1) c)
    exact this
  · exact ownsRow_keep ho (fun k hk _ => Below.heap_setCell _ _ _ _ (fun e => hvb (by have e2 : k = b := (by simp only at e; omega); rw [← e2]; exact hk)))
  · show ((R.sh.n + 1 : Nat) : Int) ≤ 10000; omega
  · exact hg.os.trans hb.os
  · exact hg.tape.trans hb.tape
  · exact hg.output.trans hb.output
  · have h3 := hg.size; have h4 := hb.size; have h5 : (w2.setCell ⟨b, 3, none⟩ (.slice p (R.sh.n + 1) c)).heap.size = w2.heap.size := by simp [World.setCell]
    omega
  · rw [Below.heap_setCell _ _ _ _ (fun e => hk (.inl (by simp only at e; omega)))]
    exact (hg.block k (Nat.lt_of_lt_of_le hl hb.size) (fun e => hk (.inr e.symm))).trans (hb.block k hl)
  · rcases hk with e | e
    · exact .inl (.inl e)
    · rcases hnr with h2 | h2
      · exact .inl (.inr (by rw [← h2]; exact e))
      · exact .inr (Nat.le_trans hb.size (h2 k e))
set_option maxHeartbeats 8000000 in
theorem rtrig_any (w : World) (b : Nat) (R : Rp) (hI : RpI w b R) : Calls Try.prog 41 #[.pointer (some ⟨b, 0, none⟩)] w fun e w' => ∃ R', RTrQ w b R e w' R' := by
  have HI := hid hI
  have c0 := hI.box.cell 0
  have c1 := hI.box.cell 1
  have c3 := hI.box.cell 3
  have bl := hI.box.lt
  have hn1 := hI.n1
  have hf0 := hI.f0
  have hf1 := hI.f1
  simp [Rp.arr] at c0 c1 c3
  have HN := hid (rnow_any w b R hI)
  have hws : IntKind.i64.wrap (R.first + (R.sh.n : Int)) = R.first + (R.sh.n : Int) := by rw [IntKind.wrap_i64]; omega
  obtain ⟨i0, Kd⟩ := kindSh
  have HKd := hid Kd
  clear hI Kd
  by_cases h0 : 0 ≤ R.now
  · have HE : Hid (R.trigE = 141) := if_pos h0
    go_enter Try.func41, Try.ntmps41
    go_wp2_with fail
    refine HN.out.mono ?_
    rintro e w1 ⟨rfl, rfl⟩
    go_wp2_with fail
    refine wp_region_calmD 30 (fun wx => Below w1.heap.size w1 wx) [(0, true), (1, true), (2, true), (3, false), (4, true), (5, true), (6, true), (7, false), (8, true), (9, true), (10, true)] [] (by kernel_rfl) (by kernel_rfl) (Below.refl _ _).drew ?_
    refine wpPre_e rfl rfl (fun K1 hK1 => ?_)
    apply Exists.intro
    refine And.intro (fun wx hx => ?_) ?_
    · go_simp
      try rfl
    go_simp
    refine hK1 _ ?_
    clear hK1 K1
    refine wpPre_e rfl rfl (fun K1 hK1 => ?_)
    apply Exists.intro
    refine And.intro (fun wx hx => ?_) ?_
    · go_simp
      try rfl
    go_simp
    refine hK1 _ ?_
    clear hK1 K1
    refine wpPre_e rfl rfl (fun K1 hK1 => ?_)
    apply Exists.intro
    refine And.intro (fun wx hx => ?_) ?_
    · go_simp
      try rfl
    go_simp
    refine hK1 _ ?_
    clear hK1 K1
    refine wpPre_e rfl rfl (fun K1 hK1 => ?_)
    apply Exists.intro
    refine And.intro (fun wx hx => ?_) ?_
    · have e0 := below_fact hx rfl c1
      have e1 := below_fact hx rfl c3
      go_simp
      try rfl
    go_simp
    refine hK1 _ ?_
    clear hK1 K1
    refine wpPre_e rfl rfl (fun K1 hK1 => ?_)
    apply Exists.intro
    refine And.intro (fun wx hx => ?_) ?_
    · go_simp
      try rfl
    go_simp
    refine hK1 _ ?_
    clear hK1 K1
    refine wpPre_e rfl rfl (fun K1 hK1 => ?_)
    apply Exists.intro
    refine And.intro (fun wx hx => ?_) ?_
    · go_simp
      try rfl
    go_simp
    refine hK1 _ ?_
    clear hK1 K1
    refine wpPre_e rfl rfl (fun K1 hK1 => ?_)
    apply Exists.intro
    refine And.intro (fun wx hx => ?_) ?_
    · go_simp
      try rfl
    go_simp
    refine hK1 _ ?_
    clear hK1 K1
    refine wpPre_e rfl rfl (fun K1 hK1 => ?_)
    apply Exists.intro
    refine And.intro (fun wx hx => ?_) ?_
    · have e0 := below_fact hx rfl c1
      have e1 := below_fact hx rfl c3
      go_simp
      try rfl
    go_simp
    refine hK1 _ ?_
    clear hK1 K1
    refine wpPre_e rfl rfl (fun K1 hK1 => ?_)
    apply Exists.intro
    refine And.intro (fun wx hx => ?_) ?_
    · go_simp
      try rfl
    go_simp
    refine hK1 _ ?_
    clear hK1 K1
    refine wpPre_e rfl rfl (fun K1 hK1 => ?_)
    apply Exists.intro
    refine And.intro (fun wx hx => ?_) ?_
    · go_simp
      try rfl
    go_simp
    refine hK1 _ ?_
    clear hK1 K1
    refine wpPre_e rfl rfl (fun K1 hK1 => ?_)
    apply Exists.intro
    refine And.intro (fun wx hx => ?_) ?_
    · go_simp
      try rfl
    go_simp
    refine hK1 _ ?_
    clear hK1 K1
    refine wpPre_nil ?_
    refine wpStg_nil ?_
    go_wp2
    refine bodyPost_ret (v := .tuple #[.int .i64 0, .int .i64 141]) (by simp [results, Try.results41, go_sem]) rfl ?_
    exact ⟨R, RSet.same HI.out (Below.refl _ _).drew, fun _ => ⟨rfl, by rw [HE.out]⟩, fun h => (by rw [HE.out] at h; cases h)⟩
  by_cases h9 : 9999 < R.first + (R.sh.n : Int)
  · have HE : Hid (R.trigE = 142) := by unfold Hid Rp.trigE; rw [if_neg h0, if_pos h9]
    go_enter Try.func41, Try.ntmps41
    go_wp2_with fail
    refine HN.out.mono ?_
    rintro e w1 ⟨rfl, rfl⟩
    go_wp2_with fail
    refine wp_region_calmD 30 (fun wx => Below w1.heap.size w1 wx) [(0, true), (1, true), (2, true), (3, false), (4, true), (5, true), (6, true), (7, false), (8, true), (9, true), (10, true)] [] (by kernel_rfl) (by kernel_rfl) (Below.refl _ _).drew ?_
    refine wpPre_e rfl rfl (fun K1 hK1 => ?_)
    apply Exists.intro
    refine And.intro (fun wx hx => ?_) ?_
    · go_simp
      try rfl
    go_simp
    refine hK1 _ ?_
    clear hK1 K1
    refine wpPre_e rfl rfl (fun K1 hK1 => ?_)
    apply Exists.intro
    refine And.intro (fun wx hx => ?_) ?_
    · go_simp
      try rfl
    go_simp
    refine hK1 _ ?_
    clear hK1 K1
    refine wpPre_e rfl rfl (fun K1 hK1 => ?_)
    apply Exists.intro
    refine And.intro (fun wx hx => ?_) ?_
    · go_simp
      try rfl
    go_simp
    refine hK1 _ ?_
    clear hK1 K1
    refine wpPre_e rfl rfl (fun K1 hK1 => ?_)
    apply Exists.intro
    refine And.intro (fun wx hx => ?_) ?_
    · have e0 := below_fact hx rfl c1
      have e1 := below_fact hx rfl c3
      go_simp
      try rfl
    go_simp
    refine hK1 _ ?_
    clear hK1 K1
    refine wpPre_e rfl rfl (fun K1 hK1 => ?_)
    apply Exists.intro
    refine And.intro (fun wx hx => ?_) ?_
    · go_simp
      try rfl
    go_simp
    refine hK1 _ ?_
    clear hK1 K1
    refine wpPre_e rfl rfl (fun K1 hK1 => ?_)
    apply Exists.intro
    refine And.intro (fun wx hx => ?_) ?_
    · go_simp
      try rfl
    go_simp
    refine hK1 _ ?_
    clear hK1 K1
    refine wpPre_e rfl rfl (fun K1 hK1 => ?_)
    apply Exists.intro
    refine And.intro (fun wx hx => ?_) ?_
    · go_simp
      try rfl
    go_simp
    refine hK1 _ ?_
    clear hK1 K1
    refine wpPre_e rfl rfl (fun K1 hK1 => ?_)
    apply Exists.intro
    refine And.intro (fun wx hx => ?_) ?_
    · have e0 := below_fact hx rfl c1
      have e1 := below_fact hx rfl c3
      go_simp
      try rfl
    go_simp
    refine hK1 _ ?_
    clear hK1 K1
    refine wpPre_e rfl rfl (fun K1 hK1 => ?_)
    apply Exists.intro
    refine And.intro (fun wx hx => ?_) ?_
    · go_simp
      try rfl
    go_simp
    refine hK1 _ ?_
    clear hK1 K1
    refine wpPre_e rfl rfl (fun K1 hK1 => ?_)
    apply Exists.intro
    refine And.intro (fun wx hx => ?_) ?_
    · go_simp
      try rfl
    go_simp
    refine hK1 _ ?_
    clear hK1 K1
    refine wpPre_e rfl rfl (fun K1 hK1 => ?_)
    apply Exists.intro
    refine And.intro (fun wx hx => ?_) ?_
    · go_simp
      try rfl
    go_simp
    refine hK1 _ ?_
    clear hK1 K1
    refine wpPre_nil ?_
    refine wpStg_nil ?_
    go_wp2
    refine bodyPost_ret (v := .tuple #[.int .i64 0, .int .i64 142]) (by simp [results, Try.results41, go_sem]) rfl ?_
    exact ⟨R, RSet.same HI.out (Below.refl _ _).drew, fun _ => ⟨rfl, by rw [HE.out]⟩, fun h => (by rw [HE.out] at h; cases h)⟩
  have HE : Hid (R.trigE = 0) := by unfold Hid Rp.trigE; rw [if_neg h0, if_neg h9]
  have hn9 : (R.sh.n : Int) + 1 ≤ 10000 := by omega
  go_enter Try.func41, Try.ntmps41
  go_wp2_with fail
  refine HN.out.mono ?_
  rintro e w1 ⟨rfl, rfl⟩
  go_wp2_with fail
  refine wp_region_calmD 30 (fun wx => Below w1.heap.size w1 wx) [(0, true), (1, true), (2, true), (3, false), (4, true), (5, true), (6, true), (7, false), (8, true), (9, true), (10, true)] [] (by kernel_rfl) (by kernel_rfl) (Below.refl _ _).drew ?_
  refine wpPre_e rfl rfl (fun K1 hK1 => ?_)
  apply Exists.intro
  refine And.intro (fun wx hx => ?_) ?_
  · go_simp
    try rfl
  go_simp
  refine hK1 _ ?_
  clear hK1 K1
  refine wpPre_e rfl rfl (fun K1 hK1 => ?_)
  apply Exists.intro
  refine And.intro (fun wx hx => ?_) ?_
  · go_simp
    try rfl
  go_simp
  refine hK1 _ ?_
  clear hK1 K1
  refine wpPre_e rfl rfl (fun K1 hK1 => ?_)
  apply Exists.intro
  refine And.intro (fun wx hx => ?_) ?_
  · go_simp
    try rfl
  go_simp
  refine hK1 _ ?_
  clear hK1 K1
  refine wpPre_e rfl rfl (fun K1 hK1 => ?_)
  apply Exists.intro
  refine And.intro (fun wx hx => ?_) ?_
  · have e0 := below_fact hx rfl c1
    have e1 := below_fact hx rfl c3
    go_simp
    try rfl
  go_simp
  refine hK1 _ ?_
  clear hK1 K1
  refine wpPre_e rfl rfl (fun K1 hK1 => ?_)
  apply Exists.intro
  refine And.intro (fun wx hx => ?_) ?_
  · go_simp
    try rfl
  go_simp
  refine hK1 _ ?_
  clear hK1 K1
  refine wpPre_e rfl rfl (fun K1 hK1 => ?_)
  apply Exists.intro
  refine And.intro (fun wx hx => ?_) ?_
  · go_simp
    try rfl
  go_simp
  refine hK1 _ ?_
  clear hK1 K1
  refine wpPre_e rfl rfl (fun K1 hK1 => ?_)
  apply Exists.intro
  refine And.intro (fun wx hx => ?_) ?_
  · go_simp
    try rfl
  go_simp
  refine hK1 _ ?_
  clear hK1 K1
  refine wpPre_e rfl rfl (fun K1 hK1 => ?_)
  apply Exists.intro
  refine And.intro (fun wx hx => ?_) ?_
  · have e0 := below_fact hx rfl c1
    have e1 := below_fact hx rfl c3
    go_simp
    try rfl
  go_simp
  refine hK1 _ ?_
  clear hK1 K1
  refine wpPre_e rfl rfl (fun K1 hK1 => ?_)
  apply Exists.intro
  refine And.intro (fun wx hx => ?_) ?_
  · go_simp
    try rfl
  go_simp
  refine hK1 _ ?_
  clear hK1 K1
  refine wpPre_e rfl rfl (fun K1 hK1 => ?_)
  apply Exists.intro
  refine And.intro (fun wx hx => ?_) ?_
  · go_simp
    try rfl
  go_simp
  refine hK1 _ ?_
  clear hK1 K1
  refine wpPre_e rfl rfl (fun K1 hK1 => ?_)
  apply Exists.intro
  refine And.intro (fun wx hx => ?_) ?_
  · go_simp
    try rfl
  go_simp
  refine hK1 _ ?_
  clear hK1 K1
  refine wpPre_nil ?_
  refine wpStg_nil ?_
  go_upto_region 7 with fail
  obtain ⟨V, hV⟩ : ∃ V, V = w1.drew := ⟨_, rfl⟩
  rw [← hV]
  have hbV : Below w1.heap.size w1 V := by rw [hV]; exact (Below.refl _ _).drew
  have hIV := HI.out.below hbV
  have c3 := hIV.box.cell 3
  have f3 := hIV.box.frozen 3
  have bl := hIV.box.lt
  simp [Rp.arr] at c3
  obtain ⟨x, hx⟩ : ∃ x, x = Rs.new (R.first + (R.sh.n : Int)) := ⟨_, rfl⟩
  have ha : Below V.heap.size V (V.alloc (.cells #[.int .i64 (R.first + (R.sh.n : Int)), .int .i64 1, .slice none 0 0, .slice none 0 0, .int .i64 0] 125)) := (Below.refl _ _).alloc (Nat.le_refl _) _
  have HIa := hid (hIV.below ha)
  have HBa := hid (hbV.trans (ha.mono hbV.size))
  have HNw : Hid (∀ j u', (elSh.cells (Rs.new (R.first + (R.sh.n : Int))))[j]? = some u' → (V.alloc (.cells #[.int .i64 (R.first + (R.sh.n : Int)), .int .i64 1, .slice none 0 0, .slice none 0 0, .int .i64 0] 125)).cell? ((⟨V.heap.size, 0, none⟩ : Addr).add j) = some u') := fun j u' hu => by
    rw [Go.WideShapes.add_plain, (Box.new V #[.int .i64 (R.first + (R.sh.n : Int)), .int .i64 1, .slice none 0 0, .slice none 0 0, .int .i64 0] 125).cell]
    rw [show 0 + j = j by omega]
    simpa [elSh, Rs.new] using hu
  clear hIV ha hV hbV hx c1 c0
  go_wp2_with (at_builtin; refine wpList_app rfl (.tmp 28) (.tmp 31) 104 125 i0 _ 5 72 HKd.out rfl 0 (.slice R.sh.p R.sh.n R.sh.c) R.sh.n (rowsS R.sh) rfl HIa.out.own ⟨V.heap.size, 0, none⟩ 1 1 (elSh.cells (Rs.new (R.first + (R.sh.n : Int)))) rfl rfl HNw.out (elSh.one _) (by omega) (by omega) (Nat.zero_le _) ?_)
  intro v6 w6 ho6 hg6 hn6
  obtain ⟨p6, c6, rfl⟩ := ownsRow_slice ho6
  have hb6 : Box w6 b R.arr 106 := HIa.out.box.kept (hg6.block b HIa.out.box.lt (fun e => HI.out.ne e.symm))
  have y3 := hb6.cell 3
  have g3 := hb6.frozen 3
  have bl6 := hb6.lt
  simp [Rp.arr] at y3
  have HS6 := hid (HI.out.pushed hn9 HBa.out ho6 hg6 hn6)
  clear ho6 hg6 hn6 hb6 HNw
  go_wp2
  refine bodyPost_ret (v := .tuple #[.int .i64 (R.first + (R.sh.n : Int)), .int .i64 0]) (by simp [results, Try.results41, go_sem]) rfl ?_
  exact ⟨R.push p6 c6, HS6.out, fun h => absurd HE.out h, fun _ => ⟨rfl, p6, c6, rfl⟩⟩
end Go.Proofs.Ytldkepokcbjlpaa
