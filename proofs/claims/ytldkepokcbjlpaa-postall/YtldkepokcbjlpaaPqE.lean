import Derived.Test.YtldkepokcbjlpaaPqD
namespace Go.Proofs.Ytldkepokcbjlpaa
open Go.RowKit Go.Conc
set_option maxRecDepth 60000
/-- the law's story -/
structure Sy where
  id : Int
  hp : Option Addr
  hn : Nat
  hc : Nat
  count : Int
  picked : Int
  next : Int
  marks : Int
def Sy.arr (y : Sy) : Array Value := #[.int .i64 y.id, .slice y.hp y.hn y.hc, .int .i64 y.count, .int .i64 y.picked, .int .i64 y.next, .int .i64 y.marks]
def Sy.trig (y : Sy) (hb T : Nat) : Sy := ⟨y.next, some ⟨hb, 0, none⟩, T, T, 0, 0, y.next + 1, y.marks⟩
structure SyQ (w : World) (sb : Nat) (y : Sy) (w' : World) : Prop where
  box : Box w' sb y.arr 60
  but : But (fun k => k = sb) w w'
theorem made_zero (T : Nat) : ∀ t, t < T → (madeCells (Value.int .i64 0).cells T)[t]? = some (.int .i64 0) := fun t ht => by
  simp [madeCells, Value.cells, ht, Nat.mod_one]
def StY (w : World) (sb T : Nat) (y : Sy) (e : Ending) (w' : World) : Prop := e = .returned (.bool true) ∧ SyQ w sb (y.trig w.heap.size T) w' ∧ ∃ M, Box w' w.heap.size M 3 ∧ M.size = T ∧ ∀ t, t < T → M[t]? = some (.int .i64 0)
set_option maxHeartbeats 8000000 in
theorem strig_yes (y : Sy) (sb T : Nat) (hT : T ≤ 12) (w : World) (hX : Box w sb y.arr 60) (h1 : ¬ 0 < y.id) (h2 : ¬ 9999 < y.next) (h3 : 0 ≤ y.next) : Calls Try.prog 22 #[.pointer (some ⟨sb, 0, none⟩), .int .i64 (T : Int), .int .i64 y.next, .int .i64 0] w fun e w' => StY w sb T y e w' := by
  have HX := hid hX
  have c0 := hX.cell 0
  have c4 := hX.cell 4
  have f0 := hX.frozen 0
  have f1 := hX.frozen 1
  have f2 := hX.frozen 2
  have f3 := hX.frozen 3
  have f4 := hX.frozen 4
  have c1 := hX.cell 1
  have c2 := hX.cell 2
  have c3 := hX.cell 3
  have sl := hX.lt
  simp [Sy.arr] at c0 c1 c2 c3 c4
  have hw1 : IntKind.i64.wrap (y.next + 1) = y.next + 1 := by rw [IntKind.wrap_i64]; omega
  obtain ⟨i0, hi0, hz0, hz1, hz2⟩ := info_parts (show (Try.prog.info? 3).map (fun i => (i.zero, i.size, i.bytes)) = some (some (.int .i64 0), 1, 8) by kernel_rfl)
  obtain ⟨M0, hM0⟩ : ∃ M, M = madeCells (Value.int .i64 0).cells (((T : Nat) : Int).toNat * i0.size) := ⟨_, rfl⟩
  have hmk : ∀ W : World, (Instr.makeSlice 32 (.int .i64 (T : Int)) (.int .i64 (T : Int))).run Try.prog W = .ok (.slice (some ⟨W.heap.size, 0, none⟩) T T) (W.alloc (.cells M0 3)) := fun W => by
    have h := run_make (P := Try.prog) W 32 3 i0 (.int .i64 0) Try.underlying32 hi0 hz0 .i64 .i64 (T : Int) (T : Int) (by omega) (by omega) (by rw [hz2]; omega) (by omega)
    rw [← hM0] at h
    simpa using h
  rw [hz1, Nat.mul_one, Int.toNat_natCast] at hM0
  have HM0s : Hid (M0.size = T) := by unfold Hid; rw [hM0, size_madeCells]
  have HM0v : Hid (∀ t, t < T → M0[t]? = some (.int .i64 0)) := by unfold Hid; rw [hM0]; exact made_zero T
  clear hM0 hi0 hz0 hz1 hz2 i0 hX
  go_enter Try.func22, Try.ntmps22
  go_wp2
  refine bodyPost_ret (v := .bool true) (by simp [results, Try.results22, go_sem]) rfl ?_
  have hb := ((((HX.out.set 0 (.int .i64 y.next)).set 4 (.int .i64 (y.next + 1))).set 1 (.slice (some ⟨w.heap.size, 0, none⟩) T T)).set 2 (.int .i64 0)).set 3 (.int .i64 0)
  obtain ⟨V, hV⟩ : ∃ V, V = ((((w.setCell ⟨sb, 0, none⟩ (.int .i64 y.next)).setCell ⟨sb, 4, none⟩ (.int .i64 (y.next + 1))).setCell ⟨sb, 1, none⟩ (.slice (some ⟨w.heap.size, 0, none⟩) T T)).setCell ⟨sb, 2, none⟩ (.int .i64 0)).setCell ⟨sb, 3, none⟩ (.int .i64 0) := ⟨_, rfl⟩
  have hbt : But (fun k => k = sb) w V := by rw [hV]; exact (((((But.one w sb).setAt 0 _).setAt 4 _).setAt 1 _).setAt 2 _).setAt 3 _
  have hs : V.heap.size = w.heap.size := by rw [hV]; simp [World.setCell]
  rw [← hV] at hb ⊢
  have hal : Below V.heap.size V (V.alloc (.cells M0 3)) := (Below.refl _ _).alloc (Nat.le_refl _) _
  have hn := Box.new V M0 3
  rw [hs] at hn
  exact ⟨rfl, ⟨hb.below hal, hbt.trans (But.ofBelow hal)⟩, M0, hn, HM0s.out, HM0v.out⟩
set_option maxHeartbeats 4000000 in
theorem strig_under (y : Sy) (sb : Nat) (T : Int) (w : World) (hX : Box w sb y.arr 60) (h1 : 0 < y.id) : Calls Try.prog 22 #[.pointer (some ⟨sb, 0, none⟩), .int .i64 T, .int .i64 0, .int .i64 141] w fun e w' => e = .returned (.bool true) ∧ w' = w := by
  have c0 := hX.cell 0
  have sl := hX.lt
  simp [Sy.arr] at c0
  clear hX
  go_enter Try.func22, Try.ntmps22
  go_wp2
  exact bodyPost_ret (v := .bool true) (by simp [results, Try.results22, go_sem]) rfl ⟨rfl, rfl⟩
set_option maxHeartbeats 4000000 in
theorem strig_over (y : Sy) (sb : Nat) (T : Int) (w : World) (hX : Box w sb y.arr 60) (h1 : ¬ 0 < y.id) (h2 : 9999 < y.next) : Calls Try.prog 22 #[.pointer (some ⟨sb, 0, none⟩), .int .i64 T, .int .i64 0, .int .i64 142] w fun e w' => e = .returned (.bool true) ∧ w' = w := by
  have c0 := hX.cell 0
  have c4 := hX.cell 4
  have sl := hX.lt
  simp [Sy.arr] at c0 c4
  clear hX
  go_enter Try.func22, Try.ntmps22
  go_wp2
  exact bodyPost_ret (v := .bool true) (by simp [results, Try.results22, go_sem]) rfl ⟨rfl, rfl⟩
set_option maxHeartbeats 4000000 in
theorem yShot0 (w : World) : Calls Try.prog 45 #[.agg #[.int .i64 0, .int .u32 0, .slice none 0 0], .agg #[.int .i64 0, .int .u32 0, .slice none 0 0]] w fun e w' => Yes w e w' := by
  have HB : Hid (Below w.heap.size w ((w.alloc (.cells #[.int .i64 0, .int .u32 0, .slice none 0 0] 48)).alloc (.cells #[.int .i64 0, .int .u32 0, .slice none 0 0] 48))) := ((Below.refl _ _).alloc (Nat.le_refl _) _).alloc (by simp) _
  go_enter Try.func45, Try.ntmps45
  go_wp2_with fail
  go_loopw [5] (fun x wr => x = .int .i64 0 ∧ wr = (w.alloc (.cells #[.int .i64 0, .int .u32 0, .slice none 0 0] 48)).alloc (.cells #[.int .i64 0, .int .u32 0, .slice none 0 0] 48)) (fun _ _ => 0)
  case atStart => exact ⟨rfl, rfl⟩
  case round =>
    obtain ⟨rfl, rfl⟩ := hrel
    go_wp2
    refine bodyPost_ret (v := .bool true) (by simp [results, Try.results45, go_sem]) rfl ⟨rfl, HB.out⟩
set_option maxHeartbeats 8000000 in
theorem spick_idle (y : Sy) (sb : Nat) (T sum : Int) (w : World) (hX : Box w sb y.arr 60) (h1 : y.id = 0) : Calls Try.prog 39 #[.pointer (some ⟨sb, 0, none⟩), .int .i64 T, .int .u32 sum, .int .i64 0, .agg #[.int .i64 0, .int .u32 0, .slice none 0 0]] w fun e w' => Yes w e w' := by
  have HX := hid hX
  obtain ⟨W, hW⟩ : ∃ V, V = w.alloc (.cells #[.int .i64 0, .int .u32 0, .slice none 0 0] 48) := ⟨_, rfl⟩
  have hB : Below w.heap.size w W := by rw [hW]; exact (Below.refl _ _).alloc (Nat.le_refl _) _
  have hS : Box W w.heap.size #[.int .i64 0, .int .u32 0, .slice none 0 0] 48 := by rw [hW]; exact Box.new _ _ _
  have hXW := hX.below hB
  have HB := hid hB
  have HS := hid hS
  have HXW := hid hXW
  have HW := hid hW
  have c0 := hXW.cell 0
  have c1 := hXW.cell 1
  have c2 := hXW.cell 2
  have c3 := hXW.cell 3
  have f0 := hXW.frozen 0
  have f3 := hXW.frozen 3
  have sl := hXW.lt
  have z0 := hS.cell 0
  have z1 := hS.cell 1
  have z2 := hS.cell 2
  have zl := hS.lt
  have hne : w.heap.size ≠ sb := fun e => by have := hX.lt; omega
  have hne' : sb ≠ w.heap.size := fun e => hne e.symm
  simp [Sy.arr] at c0 c1 c2 c3 z0 z1 z2
  clear hX hB hS hXW hW
  rw [h1] at c0
  have HY := hid yShot0
  clear h1
  go_enter Try.func39, Try.ntmps39
  go_upto_region 1 with fail
  rw [← HW.out]
  refine wp_region_calmD 30 (fun wx => Below W.heap.size W wx) [(0, true), (1, true), (2, true), (3, false), (4, true), (5, true), (6, true), (7, true), (8, true), (9, false), (10, true), (11, true), (12, true), (13, false), (14, true), (15, true)] [] (by kernel_rfl) (by kernel_rfl) (Below.refl _ _).drew ?_
  refine wpPre_e rfl rfl (fun K1 hK1 => ?_)
  apply Exists.intro
  refine And.intro (fun wx hx => ?_) ?_
  · go_simp
    try rfl
  go_simp
  refine hK1 _ ?_
  clear hK1 K1
  refine wpPre_e rfl rfl (fun K1 hK1 => ?_)
  apply Exists.intro
  refine And.intro (fun wx hx => ?_) ?_
  · go_simp
    try rfl
  go_simp
  refine hK1 _ ?_
  clear hK1 K1
  refine wpPre_e rfl rfl (fun K1 hK1 => ?_)
  apply Exists.intro
  refine And.intro (fun wx hx => ?_) ?_
  · go_simp
    try rfl
  go_simp
  refine hK1 _ ?_
  clear hK1 K1
  refine wpPre_e rfl rfl (fun K1 hK1 => ?_)
  apply Exists.intro
  refine And.intro (fun wx hx => ?_) ?_
  · have e0 := below_fact hx rfl c0
    have e1 := below_fact hx rfl c3
    have e2 := below_fact hx rfl c2
    go_simp
    try rfl
  go_simp
  refine hK1 _ ?_
  clear hK1 K1
  refine wpPre_e rfl rfl (fun K1 hK1 => ?_)
  apply Exists.intro
  refine And.intro (fun wx hx => ?_) ?_
  · go_simp
    try rfl
  go_simp
  refine hK1 _ ?_
  clear hK1 K1
  refine wpPre_e rfl rfl (fun K1 hK1 => ?_)
  apply Exists.intro
  refine And.intro (fun wx hx => ?_) ?_
  · go_simp
    try rfl
  go_simp
  refine hK1 _ ?_
  clear hK1 K1
  refine wpPre_i rfl (fun K1 hK1 => ?_)
  rw [if_neg (by go_simp; all_goals (intro h; cases h))]
  go_simp
  refine hK1 _ ?_
  clear hK1 K1
  refine wpPre_i rfl (fun K1 hK1 => ?_)
  rw [if_neg (by go_simp; all_goals (intro h; cases h))]
  go_simp
  refine hK1 _ ?_
  clear hK1 K1
  refine wpPre_i rfl (fun K1 hK1 => ?_)
  rw [if_neg (by go_simp; all_goals (intro h; cases h))]
  go_simp
  refine hK1 _ ?_
  clear hK1 K1
  refine wpPre_i rfl (fun K1 hK1 => ?_)
  rw [if_neg (by go_simp; all_goals (intro h; cases h))]
  go_simp
  refine hK1 _ ?_
  clear hK1 K1
  refine wpPre_i rfl (fun K1 hK1 => ?_)
  rw [if_neg (by go_simp; all_goals (intro h; cases h))]
  go_simp
  refine hK1 _ ?_
  clear hK1 K1
  refine wpPre_i rfl (fun K1 hK1 => ?_)
  rw [if_neg (by go_simp; all_goals (intro h; cases h))]
  go_simp
  refine hK1 _ ?_
  clear hK1 K1
  refine wpPre_i rfl (fun K1 hK1 => ?_)
  rw [if_neg (by go_simp; all_goals (intro h; cases h))]
  go_simp
  refine hK1 _ ?_
  clear hK1 K1
  refine wpPre_i rfl (fun K1 hK1 => ?_)
  rw [if_neg (by go_simp; all_goals (intro h; cases h))]
  go_simp
  refine hK1 _ ?_
  clear hK1 K1
  refine wpPre_i rfl (fun K1 hK1 => ?_)
  rw [if_neg (by go_simp; all_goals (intro h; cases h))]
  go_simp
  refine hK1 _ ?_
  clear hK1 K1
  refine wpPre_e rfl rfl (fun K1 hK1 => ?_)
  apply Exists.intro
  refine And.intro (fun wx hx => ?_) ?_
  · go_simp
    try rfl
  go_simp
  refine hK1 _ ?_
  clear hK1 K1
  refine wpPre_nil ?_
  refine wpStg_nil ?_
  go_wp2_with fail
  refine (HY.out _).mono ?_
  rintro e w2 ⟨rfl, hb2⟩
  have HB2 : Hid (Below w.heap.size w w2) := HB.out.trans (((Below.refl W.heap.size W).drew.trans hb2).mono HB.out.size)
  clear hb2
  go_wp2
  exact bodyPost_ret (v := .bool true) (by simp [results, Try.results39, go_sem]) rfl ⟨rfl, HB2.out⟩
set_option maxHeartbeats 8000000 in
theorem spick_none (y : Sy) (sb : Nat) (T sum : Int) (w : World) (hX : Box w sb y.arr 60) (h1 : y.id ≠ 0) (h2 : y.picked = y.count) : Calls Try.prog 39 #[.pointer (some ⟨sb, 0, none⟩), .int .i64 T, .int .u32 sum, .int .i64 0, .agg #[.int .i64 0, .int .u32 0, .slice none 0 0]] w fun e w' => Yes w e w' := by
  have HX := hid hX
  obtain ⟨W, hW⟩ : ∃ V, V = w.alloc (.cells #[.int .i64 0, .int .u32 0, .slice none 0 0] 48) := ⟨_, rfl⟩
  have hB : Below w.heap.size w W := by rw [hW]; exact (Below.refl _ _).alloc (Nat.le_refl _) _
  have hS : Box W w.heap.size #[.int .i64 0, .int .u32 0, .slice none 0 0] 48 := by rw [hW]; exact Box.new _ _ _
  have hXW := hX.below hB
  have HB := hid hB
  have HS := hid hS
  have HXW := hid hXW
  have HW := hid hW
  have c0 := hXW.cell 0
  have c1 := hXW.cell 1
  have c2 := hXW.cell 2
  have c3 := hXW.cell 3
  have f0 := hXW.frozen 0
  have f3 := hXW.frozen 3
  have sl := hXW.lt
  have z0 := hS.cell 0
  have z1 := hS.cell 1
  have z2 := hS.cell 2
  have zl := hS.lt
  have hne : w.heap.size ≠ sb := fun e => by have := hX.lt; omega
  have hne' : sb ≠ w.heap.size := fun e => hne e.symm
  simp [Sy.arr] at c0 c1 c2 c3 z0 z1 z2
  clear hX hB hS hXW hW
  have h1' : (y.id == 0) = false := by simp [h1]
  rw [h2] at c3
  have HY := hid yShot0
  clear h1 h2
  go_enter Try.func39, Try.ntmps39
  go_upto_region 1 with fail
  rw [← HW.out]
  refine wp_region_calmD 30 (fun wx => Below W.heap.size W wx) [(0, true), (1, true), (2, true), (3, false), (4, true), (5, true), (6, true), (7, true), (8, true), (9, false), (10, true), (11, true), (12, true), (13, false), (14, true), (15, true)] [] (by kernel_rfl) (by kernel_rfl) (Below.refl _ _).drew ?_
  refine wpPre_e rfl rfl (fun K1 hK1 => ?_)
  apply Exists.intro
  refine And.intro (fun wx hx => ?_) ?_
  · go_simp
    try rfl
  go_simp
  refine hK1 _ ?_
  clear hK1 K1
  refine wpPre_e rfl rfl (fun K1 hK1 => ?_)
  apply Exists.intro
  refine And.intro (fun wx hx => ?_) ?_
  · go_simp
    try rfl
  go_simp
  refine hK1 _ ?_
  clear hK1 K1
  refine wpPre_e rfl rfl (fun K1 hK1 => ?_)
  apply Exists.intro
  refine And.intro (fun wx hx => ?_) ?_
  · go_simp
    try rfl
  go_simp
  refine hK1 _ ?_
  clear hK1 K1
  refine wpPre_e rfl rfl (fun K1 hK1 => ?_)
  apply Exists.intro
  refine And.intro (fun wx hx => ?_) ?_
  · have e0 := below_fact hx rfl c0
    have e1 := below_fact hx rfl c3
    have e2 := below_fact hx rfl c2
    go_simp
    try rfl
  go_simp
  refine hK1 _ ?_
  clear hK1 K1
  refine wpPre_e rfl rfl (fun K1 hK1 => ?_)
  apply Exists.intro
  refine And.intro (fun wx hx => ?_) ?_
  · go_simp
    try rfl
  go_simp
  refine hK1 _ ?_
  clear hK1 K1
  refine wpPre_e rfl rfl (fun K1 hK1 => ?_)
  apply Exists.intro
  refine And.intro (fun wx hx => ?_) ?_
  · go_simp
    try rfl
  go_simp
  refine hK1 _ ?_
  clear hK1 K1
  refine wpPre_i rfl (fun K1 hK1 => ?_)
  rw [if_pos (by go_simp)]
  apply Exists.intro
  refine And.intro (fun wx hx => ?_) ?_
  · go_simp
    try rfl
  go_simp
  refine hK1 _ ?_
  clear hK1 K1
  refine wpPre_i rfl (fun K1 hK1 => ?_)
  rw [if_pos (by go_simp)]
  apply Exists.intro
  refine And.intro (fun wx hx => ?_) ?_
  · go_simp
    try rfl
  go_simp
  refine hK1 _ ?_
  clear hK1 K1
  refine wpPre_i rfl (fun K1 hK1 => ?_)
  rw [if_pos (by go_simp)]
  apply Exists.intro
  refine And.intro (fun wx hx => ?_) ?_
  · go_simp
    try rfl
  go_simp
  refine hK1 _ ?_
  clear hK1 K1
  refine wpPre_i rfl (fun K1 hK1 => ?_)
  rw [if_pos (by go_simp)]
  apply Exists.intro
  refine And.intro (fun wx hx => ?_) ?_
  · have e0 := below_fact hx rfl c0
    have e1 := below_fact hx rfl c3
    have e2 := below_fact hx rfl c2
    go_simp
    try rfl
  go_simp
  refine hK1 _ ?_
  clear hK1 K1
  refine wpPre_i rfl (fun K1 hK1 => ?_)
  rw [if_pos (by go_simp)]
  apply Exists.intro
  refine And.intro (fun wx hx => ?_) ?_
  · go_simp
    try rfl
  go_simp
  refine hK1 _ ?_
  clear hK1 K1
  refine wpPre_i rfl (fun K1 hK1 => ?_)
  rw [if_pos (by go_simp)]
  apply Exists.intro
  refine And.intro (fun wx hx => ?_) ?_
  · go_simp
    try rfl
  go_simp
  refine hK1 _ ?_
  clear hK1 K1
  refine wpPre_i rfl (fun K1 hK1 => ?_)
  rw [if_pos (by go_simp)]
  apply Exists.intro
  refine And.intro (fun wx hx => ?_) ?_
  · go_simp
    try rfl
  go_simp
  refine hK1 _ ?_
  clear hK1 K1
  refine wpPre_i rfl (fun K1 hK1 => ?_)
  rw [if_pos (by go_simp)]
  apply Exists.intro
  refine And.intro (fun wx hx => ?_) ?_
  · have e0 := below_fact hx rfl c0
    have e1 := below_fact hx rfl c3
    have e2 := below_fact hx rfl c2
    go_simp
    try rfl
  go_simp
  refine hK1 _ ?_
  clear hK1 K1
  refine wpPre_i rfl (fun K1 hK1 => ?_)
  rw [if_pos (by go_simp)]
  apply Exists.intro
  refine And.intro (fun wx hx => ?_) ?_
  · go_simp
    try rfl
  go_simp
  refine hK1 _ ?_
  clear hK1 K1
  refine wpPre_e rfl rfl (fun K1 hK1 => ?_)
  apply Exists.intro
  refine And.intro (fun wx hx => ?_) ?_
  · go_simp
    try rfl
  go_simp
  refine hK1 _ ?_
  clear hK1 K1
  refine wpPre_nil ?_
  refine wpStg_nil ?_
  go_wp2_with fail
  refine (HY.out _).mono ?_
  rintro e w2 ⟨rfl, hb2⟩
  have HB2 : Hid (Below w.heap.size w w2) := HB.out.trans (((Below.refl W.heap.size W).drew.trans hb2).mono HB.out.size)
  clear hb2
  go_wp2
  exact bodyPost_ret (v := .bool true) (by simp [results, Try.results39, go_sem]) rfl ⟨rfl, HB2.out⟩
def Sy.pick (y : Sy) : Sy := { y with picked := y.picked + 1 }
def Sy.shut (y : Sy) : Sy := { y with picked := y.picked + 1, id := 0 }
set_option maxHeartbeats 8000000 in
theorem spick_more (y : Sy) (sb : Nat) (T sum : Int) (w : World) (hX : Box w sb y.arr 60) (h1 : y.id ≠ 0) (h2 : y.picked ≠ y.count) (h3 : y.picked + 1 < T) (h0 : 0 ≤ y.picked) (hT : T ≤ 12) : Calls Try.prog 39 #[.pointer (some ⟨sb, 0, none⟩), .int .i64 T, .int .u32 sum, .int .i64 1, .agg #[.int .i64 0, .int .u32 0, .slice none 0 0]] w fun e w' => e = .returned (.bool true) ∧ SyQ w sb y.pick w' := by
  have HX := hid hX
  obtain ⟨W, hW⟩ : ∃ V, V = w.alloc (.cells #[.int .i64 0, .int .u32 0, .slice none 0 0] 48) := ⟨_, rfl⟩
  have hB : Below w.heap.size w W := by rw [hW]; exact (Below.refl _ _).alloc (Nat.le_refl _) _
  have hS : Box W w.heap.size #[.int .i64 0, .int .u32 0, .slice none 0 0] 48 := by rw [hW]; exact Box.new _ _ _
  have hXW := hX.below hB
  have HB := hid hB
  have HS := hid hS
  have HXW := hid hXW
  have HW := hid hW
  have c0 := hXW.cell 0
  have c1 := hXW.cell 1
  have c2 := hXW.cell 2
  have c3 := hXW.cell 3
  have f0 := hXW.frozen 0
  have f3 := hXW.frozen 3
  have sl := hXW.lt
  have z0 := hS.cell 0
  have z1 := hS.cell 1
  have z2 := hS.cell 2
  have zl := hS.lt
  have hne : w.heap.size ≠ sb := fun e => by have := hX.lt; omega
  have hne' : sb ≠ w.heap.size := fun e => hne e.symm
  simp [Sy.arr] at c0 c1 c2 c3 z0 z1 z2
  clear hX hB hS hXW hW
  have h1' : (y.id == 0) = false := by simp [h1]
  have h2' : (y.picked == y.count) = false := by simp [h2]
  have hw1 : IntKind.i64.wrap (y.picked + 1) = y.picked + 1 := by rw [IntKind.wrap_i64]; omega
  have HY := hid yShot0
  have HV : Hid (SyQ w sb y.pick (W.drew.setCell ⟨sb, 3, none⟩ (.int .i64 (y.picked + 1)))) := ⟨(HXW.out.below (Below.refl _ _).drew).set 3 _, (But.ofBelow (HB.out.trans ((Below.refl W.heap.size W).drew.mono HB.out.size))).trans ((But.one W.drew sb).setAt 3 _)⟩
  clear h1 h2
  go_enter Try.func39, Try.ntmps39
  go_upto_region 1 with fail
  rw [← HW.out]
  refine wp_region_calmD 30 (fun wx => Below W.heap.size W wx) [(0, true), (1, true), (2, true), (3, false), (4, true), (5, true), (6, true), (7, true), (8, true), (9, false), (10, true), (11, true), (12, true), (13, false), (14, true), (15, true)] [] (by kernel_rfl) (by kernel_rfl) (Below.refl _ _).drew ?_
  refine wpPre_e rfl rfl (fun K1 hK1 => ?_)
  apply Exists.intro
  refine And.intro (fun wx hx => ?_) ?_
  · go_simp
    try rfl
  go_simp
  refine hK1 _ ?_
  clear hK1 K1
  refine wpPre_e rfl rfl (fun K1 hK1 => ?_)
  apply Exists.intro
  refine And.intro (fun wx hx => ?_) ?_
  · go_simp
    try rfl
  go_simp
  refine hK1 _ ?_
  clear hK1 K1
  refine wpPre_e rfl rfl (fun K1 hK1 => ?_)
  apply Exists.intro
  refine And.intro (fun wx hx => ?_) ?_
  · go_simp
    try rfl
  go_simp
  refine hK1 _ ?_
  clear hK1 K1
  refine wpPre_e rfl rfl (fun K1 hK1 => ?_)
  apply Exists.intro
  refine And.intro (fun wx hx => ?_) ?_
  · have e0 := below_fact hx rfl c0
    have e1 := below_fact hx rfl c3
    have e2 := below_fact hx rfl c2
    go_simp
    try rfl
  go_simp
  refine hK1 _ ?_
  clear hK1 K1
  refine wpPre_e rfl rfl (fun K1 hK1 => ?_)
  apply Exists.intro
  refine And.intro (fun wx hx => ?_) ?_
  · go_simp
    try rfl
  go_simp
  refine hK1 _ ?_
  clear hK1 K1
  refine wpPre_e rfl rfl (fun K1 hK1 => ?_)
  apply Exists.intro
  refine And.intro (fun wx hx => ?_) ?_
  · go_simp
    try rfl
  go_simp
  refine hK1 _ ?_
  clear hK1 K1
  refine wpPre_i rfl (fun K1 hK1 => ?_)
  rw [if_pos (by go_simp)]
  apply Exists.intro
  refine And.intro (fun wx hx => ?_) ?_
  · go_simp
    try rfl
  go_simp
  refine hK1 _ ?_
  clear hK1 K1
  refine wpPre_i rfl (fun K1 hK1 => ?_)
  rw [if_pos (by go_simp)]
  apply Exists.intro
  refine And.intro (fun wx hx => ?_) ?_
  · go_simp
    try rfl
  go_simp
  refine hK1 _ ?_
  clear hK1 K1
  refine wpPre_i rfl (fun K1 hK1 => ?_)
  rw [if_pos (by go_simp)]
  apply Exists.intro
  refine And.intro (fun wx hx => ?_) ?_
  · go_simp
    try rfl
  go_simp
  refine hK1 _ ?_
  clear hK1 K1
  refine wpPre_i rfl (fun K1 hK1 => ?_)
  rw [if_pos (by go_simp)]
  apply Exists.intro
  refine And.intro (fun wx hx => ?_) ?_
  · have e0 := below_fact hx rfl c0
    have e1 := below_fact hx rfl c3
    have e2 := below_fact hx rfl c2
    go_simp
    try rfl
  go_simp
  refine hK1 _ ?_
  clear hK1 K1
  refine wpPre_i rfl (fun K1 hK1 => ?_)
  rw [if_pos (by go_simp)]
  apply Exists.intro
  refine And.intro (fun wx hx => ?_) ?_
  · go_simp
    try rfl
  go_simp
  refine hK1 _ ?_
  clear hK1 K1
  refine wpPre_i rfl (fun K1 hK1 => ?_)
  rw [if_pos (by go_simp)]
  apply Exists.intro
  refine And.intro (fun wx hx => ?_) ?_
  · go_simp
    try rfl
  go_simp
  refine hK1 _ ?_
  clear hK1 K1
  refine wpPre_i rfl (fun K1 hK1 => ?_)
  rw [if_pos (by go_simp)]
  apply Exists.intro
  refine And.intro (fun wx hx => ?_) ?_
  · go_simp
    try rfl
  go_simp
  refine hK1 _ ?_
  clear hK1 K1
  refine wpPre_i rfl (fun K1 hK1 => ?_)
  rw [if_pos (by go_simp)]
  apply Exists.intro
  refine And.intro (fun wx hx => ?_) ?_
  · have e0 := below_fact hx rfl c0
    have e1 := below_fact hx rfl c3
    have e2 := below_fact hx rfl c2
    go_simp
    try rfl
  go_simp
  refine hK1 _ ?_
  clear hK1 K1
  refine wpPre_i rfl (fun K1 hK1 => ?_)
  rw [if_pos (by go_simp)]
  apply Exists.intro
  refine And.intro (fun wx hx => ?_) ?_
  · go_simp
    try rfl
  go_simp
  refine hK1 _ ?_
  clear hK1 K1
  refine wpPre_e rfl rfl (fun K1 hK1 => ?_)
  apply Exists.intro
  refine And.intro (fun wx hx => ?_) ?_
  · go_simp
    try rfl
  go_simp
  refine hK1 _ ?_
  clear hK1 K1
  refine wpPre_nil ?_
  refine wpStg_nil ?_
  go_wp2_with fail
  refine (HY.out _).mono ?_
  rintro e w2 ⟨rfl, hb2⟩
  have HV2 : Hid (SyQ w sb y.pick w2) := ⟨HV.out.box.below hb2, HV.out.but.trans (But.ofBelow hb2)⟩
  clear hb2
  go_wp2
  exact bodyPost_ret (v := .bool true) (by simp [results, Try.results39, go_sem]) rfl ⟨rfl, HV2.out⟩
set_option maxHeartbeats 16000000 in
theorem spick_last (y : Sy) (sb hb T : Nat) (sum : Int) (pp : Option Addr) (cp : Nat) (Q : Ps) (num : Nat → Int) (M : Array Value) (S : Nat → Prop) (base : Nat) (w : World) (hX : Box w sb y.arr 60) (h1 : y.id ≠ 0) (h2 : y.picked ≠ y.count) (h3 : y.picked + 1 = (T : Int)) (hT : T ≤ 12) (hh : y.hp = some ⟨hb, 0, none⟩ ∧ y.hn = T ∧ y.hc = T) (hM : Box w hb M 3) (hMv : ∀ t, t < T → M[t]? = some (.int .i64 (num t))) (hr : w.ownsRow base 39 4 (.slice pp T cp) T (Q.rows T)) (hrn : ∀ k, (Value.slice pp T cp).ownBlock = some k → k ≠ sb) (hms : hb ≠ sb) (hg : ∀ t, t < T → IsP (num t) (Q.pt t) ∧ PtIn w S (Q.pt t) ∧ -9223372036854775808 ≤ num t ∧ num t ≤ 9223372036854775807) (hS : ¬ S sb) :
    Calls Try.prog 39 #[.pointer (some ⟨sb, 0, none⟩), .int .i64 (T : Int), .int .u32 sum, .int .i64 2, .agg #[.int .i64 y.id, .int .u32 sum, .slice pp T cp]] w fun e w' => e = .returned (.bool true) ∧ SyQ w sb y.shut w' := by
  have HX := hid hX
  obtain ⟨W, hW⟩ : ∃ V, V = w.alloc (.cells #[.int .i64 y.id, .int .u32 sum, .slice pp T cp] 48) := ⟨_, rfl⟩
  have hB : Below w.heap.size w W := by rw [hW]; exact (Below.refl _ _).alloc (Nat.le_refl _) _
  have hSh : Box W w.heap.size #[.int .i64 y.id, .int .u32 sum, .slice pp T cp] 48 := by rw [hW]; exact Box.new _ _ _
  have hXW := hX.below hB
  have HB := hid hB
  have HS := hid hSh
  have HXW := hid hXW
  have HW := hid hW
  have c0 := hXW.cell 0
  have c1 := hXW.cell 1
  have c2 := hXW.cell 2
  have c3 := hXW.cell 3
  have f0 := hXW.frozen 0
  have f3 := hXW.frozen 3
  have sl := hXW.lt
  have z0 := hSh.cell 0
  have z1 := hSh.cell 1
  have z2 := hSh.cell 2
  have zl := hSh.lt
  have hne : w.heap.size ≠ sb := fun e => by have := hX.lt; omega
  have hne' : sb ≠ w.heap.size := fun e => hne e.symm
  simp [Sy.arr] at c0 c1 c2 c3 z0 z1 z2
  clear hX hB hSh hXW hW
  rw [hh.1, hh.2.1, hh.2.2] at c1
  have h1' : (y.id == 0) = false := by simp [h1]
  have h2' : (y.picked == y.count) = false := by simp [h2]
  have hw1 : IntKind.i64.wrap (y.picked + 1) = y.picked + 1 := by rw [IntKind.wrap_i64]; omega
  have h3' : ¬ y.picked + 1 < (T : Int) := by omega
  have HA := hid (And.intro hM (And.intro hMv (And.intro hr (And.intro hrn (And.intro hms (And.intro hg hS))))))
  obtain ⟨V, hV⟩ : ∃ V, V = (W.setCell ⟨sb, 3, none⟩ (.int .i64 (y.picked + 1))).drew := ⟨_, rfl⟩
  have hXV : Box V sb y.pick.arr 60 := by rw [hV]; exact (HXW.out.below (Below.refl _ _).drew).set 3 _
  have hbV : But (fun k => k = sb) w V := by rw [hV]; exact (But.ofBelow (HB.out.trans ((Below.refl W.heap.size W).drew.mono HB.out.size))).trans ((But.one W.drew sb).setAt 3 _)
  have hSV : Box V w.heap.size #[.int .i64 y.id, .int .u32 sum, .slice pp T cp] 48 := by
    have h := (HS.out.below (Below.refl _ _).drew)
    rw [hV]
    exact h.kept (((But.one W.drew sb).setAt 3 _).block _ h.lt hne)
  have HXV := hid hXV
  have HSV := hid hSV
  have HbV := hid hbV
  have HV := hid hV
  have HHh := hid hh
  clear h1 h2 h3 hh hM hMv hr hrn hg hS hV hXV hSV hbV
  go_enter Try.func39, Try.ntmps39
  go_upto_region 1 with fail
  rw [← HW.out]
  refine wp_region_calmD 30 (fun wx => Below W.heap.size W wx) [(0, true), (1, true), (2, true), (3, false), (4, true), (5, true), (6, true), (7, true), (8, true), (9, false), (10, true), (11, true), (12, true), (13, false), (14, true), (15, true)] [] (by kernel_rfl) (by kernel_rfl) (Below.refl _ _).drew ?_
  refine wpPre_e rfl rfl (fun K1 hK1 => ?_)
  apply Exists.intro
  refine And.intro (fun wx hx => ?_) ?_
  · go_simp
    try rfl
  go_simp
  refine hK1 _ ?_
  clear hK1 K1
  refine wpPre_e rfl rfl (fun K1 hK1 => ?_)
  apply Exists.intro
  refine And.intro (fun wx hx => ?_) ?_
  · go_simp
    try rfl
  go_simp
  refine hK1 _ ?_
  clear hK1 K1
  refine wpPre_e rfl rfl (fun K1 hK1 => ?_)
  apply Exists.intro
  refine And.intro (fun wx hx => ?_) ?_
  · go_simp
    try rfl
  go_simp
  refine hK1 _ ?_
  clear hK1 K1
  refine wpPre_e rfl rfl (fun K1 hK1 => ?_)
  apply Exists.intro
  refine And.intro (fun wx hx => ?_) ?_
  · have e0 := below_fact hx rfl c0
    have e1 := below_fact hx rfl c3
    have e2 := below_fact hx rfl c2
    go_simp
    try rfl
  go_simp
  refine hK1 _ ?_
  clear hK1 K1
  refine wpPre_e rfl rfl (fun K1 hK1 => ?_)
  apply Exists.intro
  refine And.intro (fun wx hx => ?_) ?_
  · go_simp
    try rfl
  go_simp
  refine hK1 _ ?_
  clear hK1 K1
  refine wpPre_e rfl rfl (fun K1 hK1 => ?_)
  apply Exists.intro
  refine And.intro (fun wx hx => ?_) ?_
  · go_simp
    try rfl
  go_simp
  refine hK1 _ ?_
  clear hK1 K1
  refine wpPre_i rfl (fun K1 hK1 => ?_)
  rw [if_pos (by go_simp)]
  apply Exists.intro
  refine And.intro (fun wx hx => ?_) ?_
  · go_simp
    try rfl
  go_simp
  refine hK1 _ ?_
  clear hK1 K1
  refine wpPre_i rfl (fun K1 hK1 => ?_)
  rw [if_pos (by go_simp)]
  apply Exists.intro
  refine And.intro (fun wx hx => ?_) ?_
  · go_simp
    try rfl
  go_simp
  refine hK1 _ ?_
  clear hK1 K1
  refine wpPre_i rfl (fun K1 hK1 => ?_)
  rw [if_pos (by go_simp)]
  apply Exists.intro
  refine And.intro (fun wx hx => ?_) ?_
  · go_simp
    try rfl
  go_simp
  refine hK1 _ ?_
  clear hK1 K1
  refine wpPre_i rfl (fun K1 hK1 => ?_)
  rw [if_pos (by go_simp)]
  apply Exists.intro
  refine And.intro (fun wx hx => ?_) ?_
  · have e0 := below_fact hx rfl c0
    have e1 := below_fact hx rfl c3
    have e2 := below_fact hx rfl c2
    go_simp
    try rfl
  go_simp
  refine hK1 _ ?_
  clear hK1 K1
  refine wpPre_i rfl (fun K1 hK1 => ?_)
  rw [if_pos (by go_simp)]
  apply Exists.intro
  refine And.intro (fun wx hx => ?_) ?_
  · go_simp
    try rfl
  go_simp
  refine hK1 _ ?_
  clear hK1 K1
  refine wpPre_i rfl (fun K1 hK1 => ?_)
  rw [if_pos (by go_simp)]
  apply Exists.intro
  refine And.intro (fun wx hx => ?_) ?_
  · go_simp
    try rfl
  go_simp
  refine hK1 _ ?_
  clear hK1 K1
  refine wpPre_i rfl (fun K1 hK1 => ?_)
  rw [if_pos (by go_simp)]
  apply Exists.intro
  refine And.intro (fun wx hx => ?_) ?_
  · go_simp
    try rfl
  go_simp
  refine hK1 _ ?_
  clear hK1 K1
  refine wpPre_i rfl (fun K1 hK1 => ?_)
  rw [if_pos (by go_simp)]
  apply Exists.intro
  refine And.intro (fun wx hx => ?_) ?_
  · have e0 := below_fact hx rfl c0
    have e1 := below_fact hx rfl c3
    have e2 := below_fact hx rfl c2
    go_simp
    try rfl
  go_simp
  refine hK1 _ ?_
  clear hK1 K1
  refine wpPre_i rfl (fun K1 hK1 => ?_)
  rw [if_pos (by go_simp)]
  apply Exists.intro
  refine And.intro (fun wx hx => ?_) ?_
  · go_simp
    try rfl
  go_simp
  refine hK1 _ ?_
  clear hK1 K1
  refine wpPre_e rfl rfl (fun K1 hK1 => ?_)
  apply Exists.intro
  refine And.intro (fun wx hx => ?_) ?_
  · go_simp
    try rfl
  go_simp
  refine hK1 _ ?_
  clear hK1 K1
  refine wpPre_nil ?_
  refine wpStg_nil ?_
  go_upto_region 4 with fail
  rw [← HV.out]
  clear c0 c1 c2 c3 f0 f3 sl z0 z1 z2 zl
  have c0 := HXV.out.cell 0
  have c1 := HXV.out.cell 1
  have c3 := HXV.out.cell 3
  have f0 := HXV.out.frozen 0
  have sl := HXV.out.lt
  have z0 := HSV.out.cell 0
  have z1 := HSV.out.cell 1
  have z2 := HSV.out.cell 2
  have zl := HSV.out.lt
  simp [Sy.arr, Sy.pick] at c0 c1 c3 z0 z1 z2
  go_upto_region 6 with fail
  refine wp_region_calmD 30 (fun wx => Below V.heap.size V wx) [(0, true), (1, true), (2, true), (3, true), (4, false), (5, true), (6, true), (7, true), (8, false), (9, true), (10, true), (11, true), (12, true), (13, false), (14, true), (15, true), (16, true), (17, true), (18, true), (19, false), (20, true), (21, true), (22, true), (23, true), (24, true)] [] (by kernel_rfl) (by kernel_rfl) (Below.refl _ _).drew ?_
  refine wpPre_e rfl rfl (fun K1 hK1 => ?_)
  apply Exists.intro
  refine And.intro (fun wx hx => ?_) ?_
  · go_simp
    try rfl
  go_simp
  refine hK1 _ ?_
  clear hK1 K1
  refine wpPre_e rfl rfl (fun K1 hK1 => ?_)
  apply Exists.intro
  refine And.intro (fun wx hx => ?_) ?_
  · go_simp
    try rfl
  go_simp
  refine hK1 _ ?_
  clear hK1 K1
  refine wpPre_e rfl rfl (fun K1 hK1 => ?_)
  apply Exists.intro
  refine And.intro (fun wx hx => ?_) ?_
  · go_simp
    try rfl
  go_simp
  refine hK1 _ ?_
  clear hK1 K1
  refine wpPre_i rfl (fun K1 hK1 => ?_)
  rw [if_pos (by go_simp)]
  apply Exists.intro
  refine And.intro (fun wx hx => ?_) ?_
  · go_simp
    try rfl
  go_simp
  refine hK1 _ ?_
  clear hK1 K1
  refine wpPre_i rfl (fun K1 hK1 => ?_)
  rw [if_pos (by go_simp)]
  apply Exists.intro
  refine And.intro (fun wx hx => ?_) ?_
  · have e0 := below_fact hx rfl z0
    have e1 := below_fact hx rfl z1
    have e2 := below_fact hx rfl z2
    have e3 := below_fact hx rfl c0
    go_simp
    try rfl
  go_simp
  refine hK1 _ ?_
  clear hK1 K1
  refine wpPre_i rfl (fun K1 hK1 => ?_)
  rw [if_pos (by go_simp)]
  apply Exists.intro
  refine And.intro (fun wx hx => ?_) ?_
  · go_simp
    try rfl
  go_simp
  refine hK1 _ ?_
  clear hK1 K1
  refine wpPre_i rfl (fun K1 hK1 => ?_)
  rw [if_pos (by go_simp)]
  apply Exists.intro
  refine And.intro (fun wx hx => ?_) ?_
  · go_simp
    try rfl
  go_simp
  refine hK1 _ ?_
  clear hK1 K1
  refine wpPre_i rfl (fun K1 hK1 => ?_)
  rw [if_pos (by go_simp)]
  apply Exists.intro
  refine And.intro (fun wx hx => ?_) ?_
  · go_simp
    try rfl
  go_simp
  refine hK1 _ ?_
  clear hK1 K1
  refine wpPre_i rfl (fun K1 hK1 => ?_)
  rw [if_pos (by go_simp)]
  apply Exists.intro
  refine And.intro (fun wx hx => ?_) ?_
  · have e0 := below_fact hx rfl z0
    have e1 := below_fact hx rfl z1
    have e2 := below_fact hx rfl z2
    have e3 := below_fact hx rfl c0
    go_simp
    try rfl
  go_simp
  refine hK1 _ ?_
  clear hK1 K1
  refine wpPre_i rfl (fun K1 hK1 => ?_)
  rw [if_pos (by go_simp)]
  apply Exists.intro
  refine And.intro (fun wx hx => ?_) ?_
  · go_simp
    try rfl
  go_simp
  refine hK1 _ ?_
  clear hK1 K1
  refine wpPre_e rfl rfl (fun K1 hK1 => ?_)
  apply Exists.intro
  refine And.intro (fun wx hx => ?_) ?_
  · go_simp
    try rfl
  go_simp
  refine hK1 _ ?_
  clear hK1 K1
  refine wpPre_e rfl rfl (fun K1 hK1 => ?_)
  apply Exists.intro
  refine And.intro (fun wx hx => ?_) ?_
  · go_simp
    try rfl
  go_simp
  refine hK1 _ ?_
  clear hK1 K1
  refine wpPre_i rfl (fun K1 hK1 => ?_)
  rw [if_pos (by go_simp)]
  apply Exists.intro
  refine And.intro (fun wx hx => ?_) ?_
  · go_simp
    try rfl
  go_simp
  refine hK1 _ ?_
  clear hK1 K1
  refine wpPre_i rfl (fun K1 hK1 => ?_)
  rw [if_pos (by go_simp)]
  apply Exists.intro
  refine And.intro (fun wx hx => ?_) ?_
  · have e0 := below_fact hx rfl z0
    have e1 := below_fact hx rfl z1
    have e2 := below_fact hx rfl z2
    have e3 := below_fact hx rfl c0
    go_simp
    try rfl
  go_simp
  refine hK1 _ ?_
  clear hK1 K1
  refine wpPre_i rfl (fun K1 hK1 => ?_)
  rw [if_pos (by go_simp)]
  apply Exists.intro
  refine And.intro (fun wx hx => ?_) ?_
  · go_simp
    try rfl
  go_simp
  refine hK1 _ ?_
  clear hK1 K1
  refine wpPre_i rfl (fun K1 hK1 => ?_)
  rw [if_pos (by go_simp)]
  apply Exists.intro
  refine And.intro (fun wx hx => ?_) ?_
  · go_simp
    try rfl
  go_simp
  refine hK1 _ ?_
  clear hK1 K1
  refine wpPre_e rfl rfl (fun K1 hK1 => ?_)
  apply Exists.intro
  refine And.intro (fun wx hx => ?_) ?_
  · go_simp
    try rfl
  go_simp
  refine hK1 _ ?_
  clear hK1 K1
  refine wpPre_e rfl rfl (fun K1 hK1 => ?_)
  apply Exists.intro
  refine And.intro (fun wx hx => ?_) ?_
  · go_simp
    try rfl
  go_simp
  refine hK1 _ ?_
  clear hK1 K1
  refine wpPre_i rfl (fun K1 hK1 => ?_)
  rw [if_pos (by go_simp)]
  apply Exists.intro
  refine And.intro (fun wx hx => ?_) ?_
  · go_simp
    try rfl
  go_simp
  refine hK1 _ ?_
  clear hK1 K1
  refine wpPre_i rfl (fun K1 hK1 => ?_)
  rw [if_pos (by go_simp)]
  apply Exists.intro
  refine And.intro (fun wx hx => ?_) ?_
  · have e0 := below_fact hx rfl z0
    have e1 := below_fact hx rfl z1
    have e2 := below_fact hx rfl z2
    have e3 := below_fact hx rfl c0
    go_simp
    try rfl
  go_simp
  refine hK1 _ ?_
  clear hK1 K1
  refine wpPre_i rfl (fun K1 hK1 => ?_)
  rw [if_pos (by go_simp)]
  apply Exists.intro
  refine And.intro (fun wx hx => ?_) ?_
  · go_simp
    try rfl
  go_simp
  refine hK1 _ ?_
  clear hK1 K1
  refine wpPre_i rfl (fun K1 hK1 => ?_)
  rw [if_pos (by go_simp)]
  apply Exists.intro
  refine And.intro (fun wx hx => ?_) ?_
  · go_simp
    try rfl
  go_simp
  refine hK1 _ ?_
  clear hK1 K1
  refine wpPre_i rfl (fun K1 hK1 => ?_)
  rw [if_pos (by go_simp)]
  apply Exists.intro
  refine And.intro (fun wx hx => ?_) ?_
  · go_simp
    try rfl
  go_simp
  refine hK1 _ ?_
  clear hK1 K1
  refine wpPre_e rfl rfl (fun K1 hK1 => ?_)
  apply Exists.intro
  refine And.intro (fun wx hx => ?_) ?_
  · go_simp
    try rfl
  go_simp
  refine hK1 _ ?_
  clear hK1 K1
  refine wpPre_e rfl rfl (fun K1 hK1 => ?_)
  apply Exists.intro
  refine And.intro (fun wx hx => ?_) ?_
  · go_simp
    try rfl
  go_simp
  refine hK1 _ ?_
  clear hK1 K1
  refine wpPre_nil ?_
  refine wpStg_nil ?_
  go_upto_region 8 with fail
  obtain ⟨U, hU⟩ : ∃ U, U = (V.setCell ⟨sb, 0, none⟩ (.int .i64 0)).drew := ⟨_, rfl⟩
  rw [← hU]
  have hXU : Box U sb y.shut.arr 60 := by rw [hU]; exact (HXV.out.below (Below.refl _ _).drew).set 0 _
  have hbU : But (fun k => k = sb) w U := by rw [hU]; exact HbV.out.trans ((But.ofBelow (Below.refl V.heap.size V).drew).trans ((But.one V.drew sb).setAt 0 _))
  have hSU : Box U w.heap.size #[.int .i64 y.id, .int .u32 sum, .slice pp T cp] 48 := by
    have h := (HSV.out.below (Below.refl _ _).drew)
    rw [hU]
    exact h.kept (((But.one V.drew sb).setAt 0 _).block _ h.lt hne)
  have hMU : Box U hb M 3 := HA.out.1.kept (hbU.block _ HA.out.1.lt HA.out.2.2.2.2.1)
  have hrU := ownsRow_keep HA.out.2.2.1 (fun j hj hl => hbU.block j hl (HA.out.2.2.2.1 j hj))
  have hgU : ∀ t, t < T → PtIn U S (Q.pt t) := fun t ht => (HA.out.2.2.2.2.2.1 t ht).2.1.kept hbU.size (fun k hk hl => hbU.block k hl (fun e => HA.out.2.2.2.2.2.2 (by rw [← e]; exact hk)))
  have HU := hid (And.intro hXU (And.intro hbU (And.intro hMU (And.intro hrU hgU))))
  have c1u := hXU.cell 1
  have z2u := hSU.cell 2
  have su := hXU.lt
  have zu := hSU.lt
  simp [Sy.arr, Sy.shut] at c1u z2u
  have HC1 : Hid (U.cell? ⟨sb, 1, none⟩ = some (.slice (some ⟨hb, 0, none⟩) T T)) := by
    have h := hXU.cell 1
    simp [Sy.arr, Sy.shut] at h
    unfold Hid
    rw [h, HHh.out.1, HHh.out.2.1, HHh.out.2.2]
  clear hU hXU hbU hSU hMU hrU hgU c0 c1 c3 f0 sl z0 z1 z2 zl
  go_wp2_with fail
  go_loopw [11, 12] (fun ok x wr => ∃ k : Nat, k ≤ T ∧ ok = .bool true ∧ x = .int .i64 (k : Int) ∧ Below U.heap.size U wr) (fun _ x _ => T - (intOf x).toNat)
  case atStart => exact ⟨0, Nat.zero_le _, rfl, rfl, Below.refl _ _⟩
  case round =>
    obtain ⟨k, hk, rfl, rfl, hb9⟩ := hrel
    have HBk := hid hb9
    have c1r := (World.cell?_of_block (a := ⟨sb, 1, none⟩) (hb9.block _ su)).trans HC1.out
    have z2r := (World.cell?_of_block (a := ⟨w.heap.size, 2, none⟩) (hb9.block _ zu)).trans z2u
    have su1 := Nat.lt_of_lt_of_le su hb9.size
    have zu1 := Nat.lt_of_lt_of_le zu hb9.size
    clear hb9
    by_cases hlt : k < T
    · have hlt' : (k : Int) < (T : Int) := by omega
      have hr2 := ownsRow_keep HU.out.2.2.2.1 (fun j _ hj => HBk.out.block j hj)
      obtain ⟨pb, hpb, hz⟩ := part_row hr2 hlt
      have HRl := hid hr2
      subst hpb
      have p0 := hz 0 _ rfl
      have p1 := hz 1 _ rfl
      have p2 := hz 2 _ rfl
      have p3 := hz 3 _ rfl
      simp only [Nat.add_zero] at p0
      have hlp := (hr2.lt pb rfl).2
      have hMk := HU.out.2.2.1.below HBk.out
      have m0 := (hMk.cell k).trans (HA.out.2.1 k hlt)
      have hml := hMk.lt
      have hg := HA.out.2.2.2.2.2.1 k hlt
      have HIs := hid hg.1
      have HIn : Hid (∀ X, Below wr.heap.size wr X → PtIn X S (Q.pt k)) := fun X hX => ((HU.out.2.2.2.2 k hlt).below HBk.out).below hX
      have HPt : Hid (∀ X, Calls Try.prog 18 #[.int .i64 (num k)] X fun e w' => PtNew (num k) X e w') := fun X => part_any _ hg.2.2 X
      clear hr2 hz hg hMk HRl
      go_wp2_with fail
      refine wp_region_calmE 30 (fun wx => Below wr.heap.size wr wx) [(0, true), (1, false), (2, true), (3, true), (4, false), (5, true), (6, true), (7, true), (8, false), (9, true), (10, true), (11, false)] (.one 12 true [] (.one 13 false [(14, true)] .done)) (by kernel_rfl) (by kernel_rfl) (Below.refl _ _).drew ?_
      refine wpPre_e rfl rfl (fun K1 hK1 => ?_)
      apply Exists.intro
      refine And.intro (fun wx hx => ?_) ?_
      · go_simp
        try rfl
      go_simp
      refine hK1 _ ?_
      clear hK1 K1
      refine wpPre_e rfl rfl (fun K1 hK1 => ?_)
      apply Exists.intro
      refine And.intro (fun wx hx => ?_) ?_
      · have e0 := below_fact hx rfl z2r
        have e1 := below_fact hx rfl p0
        have e2 := below_fact hx rfl p1
        have e3 := below_fact hx rfl p2
        have e4 := below_fact hx rfl p3
        have e5 := below_fact hx rfl c1r
        have e6 := below_fact hx rfl m0
        go_simp
        try rfl
      go_simp
      refine hK1 _ ?_
      clear hK1 K1
      refine wpPre_e rfl rfl (fun K1 hK1 => ?_)
      apply Exists.intro
      refine And.intro (fun wx hx => ?_) ?_
      · go_simp
        try rfl
      go_simp
      refine hK1 _ ?_
      clear hK1 K1
      refine wpPre_e rfl rfl (fun K1 hK1 => ?_)
      apply Exists.intro
      refine And.intro (fun wx hx => ?_) ?_
      · go_simp
        try rfl
      go_simp
      refine hK1 _ ?_
      clear hK1 K1
      refine wpPre_e rfl rfl (fun K1 hK1 => ?_)
      apply Exists.intro
      refine And.intro (fun wx hx => ?_) ?_
      · have e0 := below_fact hx rfl z2r
        have e1 := below_fact hx rfl p0
        have e2 := below_fact hx rfl p1
        have e3 := below_fact hx rfl p2
        have e4 := below_fact hx rfl p3
        have e5 := below_fact hx rfl c1r
        have e6 := below_fact hx rfl m0
        go_simp
        try rfl
      go_simp
      refine hK1 _ ?_
      clear hK1 K1
      refine wpPre_e rfl rfl (fun K1 hK1 => ?_)
      apply Exists.intro
      refine And.intro (fun wx hx => ?_) ?_
      · go_simp
        try rfl
      go_simp
      refine hK1 _ ?_
      clear hK1 K1
      refine wpPre_e rfl rfl (fun K1 hK1 => ?_)
      apply Exists.intro
      refine And.intro (fun wx hx => ?_) ?_
      · go_simp
        try rfl
      go_simp
      refine hK1 _ ?_
      clear hK1 K1
      refine wpPre_e rfl rfl (fun K1 hK1 => ?_)
      apply Exists.intro
      refine And.intro (fun wx hx => ?_) ?_
      · go_simp
        try rfl
      go_simp
      refine hK1 _ ?_
      clear hK1 K1
      refine wpPre_e rfl rfl (fun K1 hK1 => ?_)
      apply Exists.intro
      refine And.intro (fun wx hx => ?_) ?_
      · have e0 := below_fact hx rfl z2r
        have e1 := below_fact hx rfl p0
        have e2 := below_fact hx rfl p1
        have e3 := below_fact hx rfl p2
        have e4 := below_fact hx rfl p3
        have e5 := below_fact hx rfl c1r
        have e6 := below_fact hx rfl m0
        go_simp
        try rfl
      go_simp
      refine hK1 _ ?_
      clear hK1 K1
      refine wpPre_e rfl rfl (fun K1 hK1 => ?_)
      apply Exists.intro
      refine And.intro (fun wx hx => ?_) ?_
      · go_simp
        try rfl
      go_simp
      refine hK1 _ ?_
      clear hK1 K1
      refine wpPre_e rfl rfl (fun K1 hK1 => ?_)
      apply Exists.intro
      refine And.intro (fun wx hx => ?_) ?_
      · go_simp
        try rfl
      go_simp
      refine hK1 _ ?_
      clear hK1 K1
      refine wpPre_e rfl rfl (fun K1 hK1 => ?_)
      apply Exists.intro
      refine And.intro (fun wx hx => ?_) ?_
      · have e0 := below_fact hx rfl z2r
        have e1 := below_fact hx rfl p0
        have e2 := below_fact hx rfl p1
        have e3 := below_fact hx rfl p2
        have e4 := below_fact hx rfl p3
        have e5 := below_fact hx rfl c1r
        have e6 := below_fact hx rfl m0
        go_simp
        try rfl
      go_simp
      refine hK1 _ ?_
      clear hK1 K1
      refine wpPre_nil ?_
      refine wpTr_e rfl (fun K1 hK1 => ?_)
      refine step_call rfl 18 #[.tmp 102] _ rfl Try.f18 Try.func18 (by kernel_rfl) rfl #[.int .i64 (num k)] rfl _ (HPt.out _) (fun e w9 h9 => ?_)
      obtain ⟨x9, rfl, hx9, _, hin9, hb9⟩ := h9
      refine ⟨_, rfl, ?_⟩
      have HB9 : Hid (Below wr.heap.size wr w9) := (Below.refl wr.heap.size wr).drew.trans hb9
      have HY := hid (yPart (Q.pt k) x9 w9 S _ (HIn.out _ HB9.out) hin9 (HIs.out.two hx9 (HIn.out _ HB9.out)) HIs.out.cl)
      clear hb9 hx9 hin9
      go_simp
      refine hK1 _ _ (fun _ => HB9.out) ?_
      clear hK1 K1
      refine wpPre_nil ?_
      refine wpTr_e rfl (fun K1 hK1 => ?_)
      refine step_call rfl 19 #[.tmp 95, .tmp 103] _ rfl Try.f19 Try.func19 (by kernel_rfl) rfl #[.agg #[.int .i64 (Q.pt k).num, .slice (Q.pt k).cl.p (Q.pt k).cl.n (Q.pt k).cl.c, .slice (Q.pt k).lg.p (Q.pt k).lg.n (Q.pt k).lg.c, .slice (Q.pt k).pd.p (Q.pt k).pd.n (Q.pt k).pd.c], .agg #[.int .i64 x9.num, .slice x9.cl.p x9.cl.n x9.cl.c, .slice x9.lg.p x9.lg.n x9.lg.c, .slice x9.pd.p x9.pd.n x9.pd.c]] rfl _ HY.out (fun e w10 h10 => ?_)
      obtain ⟨rfl, hb10⟩ := h10
      refine ⟨_, rfl, ?_⟩
      have HB10 : Hid (Below wr.heap.size wr w10) := HB9.out.trans (hb10.mono HB9.out.size)
      clear hb10 HY
      go_simp
      refine hK1 _ _ (fun h => by cases h) ?_
      clear hK1 K1
      refine wpPre_e rfl rfl (fun K1 hK1 => ?_)
      apply Exists.intro
      refine And.intro (fun wx hx => ?_) ?_
      · go_simp
        try rfl
      go_simp
      refine hK1 _ ?_
      clear hK1 K1
      refine wpPre_nil ?_
      refine wpTr_done ?_
      go_wp2
      go_roundw
      case rel => exact ⟨k + 1, by omega, rfl, by go_num, HBk.out.trans (HB10.out.mono HBk.out.size)⟩
      case measure => simp [intOf]; omega
    · have hlt' : ¬ (k : Int) < (T : Int) := by omega
      have HZ : Hid (SyQ w sb y.shut wr) := ⟨HU.out.1.below HBk.out, HU.out.2.1.trans (But.ofBelow HBk.out)⟩
      go_wp2
      exact bodyPost_ret (v := .bool true) (by simp [results, Try.results39, go_sem]) rfl ⟨rfl, HZ.out⟩
end Go.Proofs.Ytldkepokcbjlpaa
