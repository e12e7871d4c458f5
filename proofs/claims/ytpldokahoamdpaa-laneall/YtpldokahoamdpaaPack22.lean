import Derived.Test.YtpldokahoamdpaaPack20
import Derived.Test.YtpldokahoamdpaaPack21
namespace Go.Proofs.Ytpldokahoamdpaa
open Go.RowKit Go.Conc
set_option maxRecDepth 8000
def rowsE {α : Type} (E : El α) (l : LT α) : List Value := (List.range l.n).flatMap fun j => E.cells (l.item j)
def LT.push {α : Type} (l : LT α) (p : Option Addr) (c : Nat) (u : α) : LT α := ⟨p, l.n + 1, c, fun j => if j < l.n then l.item j else u⟩
theorem rowsE_push {α : Type} (E : El α) (l : LT α) (p : Option Addr) (c : Nat) (u : α) : rowsE E (l.push p c u) = rowsE E l ++ E.cells u := by
  unfold rowsE LT.push
  rw [List.range_succ, List.flatMap_append]
  congr 1
  · rw [List.flatMap_def, List.flatMap_def]
    congr 1
    apply List.map_congr_left
    intro j hj
    show E.cells (if j < l.n then l.item j else u) = _
    rw [if_pos (List.mem_range.1 hj)]
  · simp
theorem LT.push_toL {α : Type} (l : LT α) (p : Option Addr) (c : Nat) (u : α) : (l.push p c u).toL = l.toL ++ [u] := by
  unfold LT.toL LT.push
  rw [List.range_succ, List.map_append]
  congr 1
  · apply List.map_congr_left
    intro j hj
    show (if j < l.n then l.item j else u) = _
    rw [if_pos (List.mem_range.1 hj)]
  · simp
theorem own_list {α : Type} {E : El α} {base : Nat} {w : World} {S : Nat → Prop} {l : LT α} (h : w.ownsRow base E.ty E.size (.slice l.p l.n l.c) l.n (rowsE E l)) (he : ∀ j, j < l.n → E.In w S (l.item j)) (hS : ∀ b, base ≤ b → S b) (hn : l.n ≤ 140737488355328) : LT.In E w S l := by
  have hlt := h.lt
  have hce := @World.ownsRow.cells _ _ _ _ _ _ _ h
  obtain ⟨_, ⟨hv, h0⟩ | ⟨gb, cap, cur, hv, hbg, hh, hnc, hcm, hcs, htake⟩⟩ := id h
  · injection hv with hp _ hc
    refine ⟨fun h => absurd h (by omega), he, by omega, hn, by rw [hc]; exact Nat.zero_le _, fun _ => ⟨h0, hc⟩⟩
  · injection hv with hp _ hc
    refine ⟨fun hn => ⟨gb, 0, hp, hS gb hbg, (hlt gb (by rw [hp]; rfl)).2, fun j hj r u hu => ?_⟩, he, by omega, hn, by omega, fun e => by rw [hp] at e; cases e⟩
    have hr : r < E.size := by
      rcases Nat.lt_or_ge r E.size with h1 | h1
      · exact h1
      · rw [List.getElem?_eq_none (by rw [E.len]; exact h1)] at hu; cases hu
    have := hce (g := gb) (by rw [hp]; rfl) (j * E.size + r) u (by unfold rowsE; rw [range_flat_get E l.item l.n j r hj hr]; exact hu)
    rw [Go.WideShapes.add_plain] at this
    rw [show (0 : Nat) + j * E.size + r = 0 + (j * E.size + r) by omega]
    exact this
/-- the law's book -/
structure Bb where
  R : LT RT
  M : LT Int
  oR : Nat
  oM : Nat
def Bb.C (X : Bb) (k j : Nat) : Prop := j = k ∨ (Value.slice X.R.p X.R.n X.R.c).ownBlock = some j ∨ (Value.slice X.M.p X.M.n X.M.c).ownBlock = some j
structure BbI (B0 : Nat) (w : World) (k : Nat) (X : Bb) : Prop where
  box : Box w k #[.slice X.R.p X.R.n X.R.c, .slice X.M.p X.M.n X.M.c, .int .i64 (X.oR : Int), .int .i64 (X.oM : Int)] 57
  o1 : w.ownsRow B0 33 6 (.slice X.R.p X.R.n X.R.c) X.R.n (rowsE elRec X.R)
  o2 : w.ownsRow B0 3 1 (.slice X.M.p X.M.n X.M.c) X.M.n (rowsE elInt X.M)
  kb : B0 ≤ k
  d1 : (Value.slice X.R.p X.R.n X.R.c).ownBlock ≠ some k
  d2 : (Value.slice X.M.p X.M.n X.M.c).ownBlock ≠ some k
  d3 : ∀ g, (Value.slice X.R.p X.R.n X.R.c).ownBlock = some g → (Value.slice X.M.p X.M.n X.M.c).ownBlock ≠ some g
  el : ∀ j, j < X.R.n → RT.In w (fun b => b < B0) (X.R.item j)
  mi : ∀ j, j < X.M.n → elInt.In w (fun _ => True) (X.M.item j)
  rn : X.R.n ≤ 10000
  mn : X.M.n ≤ 10000
  b1 : X.oR ≤ X.R.n
  b2 : X.oM ≤ X.M.n
section
variable {B0 : Nat} {w w' : World} {k : Nat} {X X' : Bb}
theorem BbI.c_lt (h : BbI B0 w k X) {j : Nat} (hj : X.C k j) : B0 ≤ j ∧ j < w.heap.size := by
  rcases hj with rfl | e | e
  · exact ⟨h.kb, h.box.lt⟩
  · exact h.o1.lt j e
  · exact h.o2.lt j e
theorem BbI.but {Y : Nat → Prop} (h : BbI B0 w k X) (hb : But Y w w') (hy : ∀ j, j < w.heap.size → Y j → ¬ X.C k j ∧ B0 ≤ j) : BbI B0 w' k X := by
  have hk : ∀ j, j < w.heap.size → X.C k j → w'.heap[j]? = w.heap[j]? := fun j hl hc => hb.block j hl fun e => (hy j hl e).1 hc
  refine ⟨h.box.kept (hk k h.box.lt (.inl rfl)), ownsRow_keep h.o1 fun g hg hl => hk g hl (.inr (.inl hg)), ownsRow_keep h.o2 fun g hg hl => hk g hl (.inr (.inr hg)), h.kb, h.d1, h.d2, h.d3, fun j hj => (h.el j hj).kept hb.size fun g hg hl => hb.block g hl fun e => ?_, h.mi, h.rn, h.mn, h.b1, h.b2⟩
  have := (hy g hl e).2
  omega
theorem BbI.below (h : BbI B0 w k X) (hb : Below w.heap.size w w') : BbI B0 w' k X := h.but (Y := fun _ => False) (But.ofBelow hb) fun _ _ e => e.elim
theorem BbI.inM (h : BbI B0 w k X) : LT.In elInt w (fun _ => True) X.M := own_list (E := elInt) h.o2 h.mi (fun _ _ => trivial) (by have := h.mn; omega)
theorem BbI.inR (h : BbI B0 w k X) : LT.In elRec w (fun _ => True) X.R := own_list (E := elRec) h.o1 (fun j hj => (h.el j hj).mono fun _ _ _ => trivial) (fun _ _ => trivial) (by have := h.rn; omega)
end
structure BSet (B0 : Nat) (w : World) (k : Nat) (X : Bb) (w' : World) (X' : Bb) : Prop where
  bk : BbI B0 w' k X'
  but : But (X.C k) w w'
  c : ∀ j, X'.C k j → X.C k j ∨ w.heap.size ≤ j
theorem BSet.refl {B0 : Nat} {w : World} {k : Nat} {X : Bb} (h : BbI B0 w k X) : BSet B0 w k X w X := ⟨h, But.refl _ _, fun _ hj => .inl hj⟩
theorem BSet.below {B0 : Nat} {w w' : World} {k : Nat} {X : Bb} (h : BbI B0 w k X) (hb : Below w.heap.size w w') : BSet B0 w k X w' X := ⟨h.below hb, But.ofBelow hb, fun _ hj => .inl hj⟩
theorem BSet.trans {B0 : Nat} {w w1 w2 : World} {k : Nat} {X X1 X2 : Bb} (h : BSet B0 w k X w1 X1) (g : BSet B0 w1 k X1 w2 X2) : BSet B0 w k X w2 X2 := by
  refine ⟨g.bk, ⟨g.but.os.trans h.but.os, g.but.tape.trans h.but.tape, g.but.output.trans h.but.output, Nat.le_trans h.but.size g.but.size, fun j hj hn => ?_⟩, fun j hj => ?_⟩
  · refine (g.but.block j (Nat.lt_of_lt_of_le hj h.but.size) fun hc => ?_).trans (h.but.block j hj hn)
    rcases h.c j hc with e | e
    · exact hn e
    · omega
  · rcases g.c j hj with h1 | h1
    · exact h.c j h1
    · exact .inr (Nat.le_trans h.but.size h1)
/-- the lane beside a book that changes -/
theorem LnI.book {B0 : Nat} {w w' : World} {k b : Nat} {X X' : Bb} {L : Ln} (h : LnI w (X.C k) b L) (g : BSet B0 w k X w' X') : LnI w' (X'.C k) b L := by
  have h1 : LnI w (fun j => X.C k j ∨ X'.C k j) b L := h.z fun j hj hz => by
    rcases hz with e | e
    · exact e
    · rcases g.c j e with e2 | e2
      · exact e2
      · omega
  exact (h1.but g.but fun j _ e => .inl e).z fun j _ e => .inr e
/-- the book beside a lane that changes -/
theorem BbI.lane {B0 : Nat} {w w' : World} {k b : Nat} {X : Bb} {L L' : Ln} (h : BbI B0 w k X) (hl : LnI w (X.C k) b L) (hc : ∀ j, L.C b j → B0 ≤ j) (g : LSet w (X.C k) b L w' L') : BbI B0 w' k X :=
  h.but g.but fun j _ e => ⟨hl.cz j e, hc j e⟩
set_option maxHeartbeats 2000000 in
/-- held -/
theorem held_any (B0 : Nat) (w : World) (k : Nat) (X : Bb) (h : BbI B0 w k X) : Calls Try.prog 40 #[.pointer (some ⟨k, 0, none⟩)] w fun e w' => e = .returned (.int .i64 ((X.R.n - X.oR : Nat) : Int)) ∧ Below w.heap.size w w' := by
  have c0 : w.cell? ⟨k, 0, none⟩ = some (.slice X.R.p X.R.n X.R.c) := by rw [h.box.cell]; rfl
  have c2 : w.cell? ⟨k, 2, none⟩ = some (.int .i64 (X.oR : Int)) := by rw [h.box.cell]; rfl
  have bl := h.box.lt
  have h1 := h.b1
  have h2 := h.rn
  have HE : Hid (((X.R.n - X.oR : Nat) : Int) = (X.R.n : Int) - (X.oR : Int)) := by show _ = _; omega
  have hw : IntKind.i64.wrap ((X.R.n : Int) - (X.oR : Int)) = (X.R.n : Int) - (X.oR : Int) := by rw [IntKind.wrap_i64]; omega
  clear h
  go_enter Try.func40, Try.ntmps40
  go_wp2_with fail
  refine wp_region_calmD 30 (fun wx => Below w.heap.size w wx) [(0, true), (1, true), (2, true), (3, false), (4, true), (5, true), (6, true), (7, true), (8, false), (9, true), (10, true)] [] (by kernel_rfl) (by kernel_rfl) (Below.refl _ _).drew ?_
  refine wpPre_e rfl rfl (fun K1 hK1 => ?_)
  apply Exists.intro
  refine And.intro (fun wx hx => ?_) ?_
  · go_simp
    try rfl
  go_simp
  refine hK1 _ ?_
  clear hK1 K1
  refine wpPre_e rfl rfl (fun K1 hK1 => ?_)
  apply Exists.intro
  refine And.intro (fun wx hx => ?_) ?_
  · go_simp
    try rfl
  go_simp
  refine hK1 _ ?_
  clear hK1 K1
  refine wpPre_e rfl rfl (fun K1 hK1 => ?_)
  apply Exists.intro
  refine And.intro (fun wx hx => ?_) ?_
  · go_simp
    try rfl
  go_simp
  refine hK1 _ ?_
  clear hK1 K1
  refine wpPre_e rfl rfl (fun K1 hK1 => ?_)
  apply Exists.intro
  refine And.intro (fun wx hx => ?_) ?_
  · have e0 := below_fact hx rfl c0
    have e1 := below_fact hx rfl c2
    go_simp
    try rfl
  go_simp
  refine hK1 _ ?_
  clear hK1 K1
  refine wpPre_e rfl rfl (fun K1 hK1 => ?_)
  apply Exists.intro
  refine And.intro (fun wx hx => ?_) ?_
  · go_simp
    try rfl
  go_simp
  refine hK1 _ ?_
  clear hK1 K1
  refine wpPre_e rfl rfl (fun K1 hK1 => ?_)
  apply Exists.intro
  refine And.intro (fun wx hx => ?_) ?_
  · go_simp
    try rfl
  go_simp
  refine hK1 _ ?_
  clear hK1 K1
  refine wpPre_e rfl rfl (fun K1 hK1 => ?_)
  apply Exists.intro
  refine And.intro (fun wx hx => ?_) ?_
  · go_simp
    try rfl
  go_simp
  refine hK1 _ ?_
  clear hK1 K1
  refine wpPre_e rfl rfl (fun K1 hK1 => ?_)
  apply Exists.intro
  refine And.intro (fun wx hx => ?_) ?_
  · go_simp
    try rfl
  go_simp
  refine hK1 _ ?_
  clear hK1 K1
  refine wpPre_e rfl rfl (fun K1 hK1 => ?_)
  apply Exists.intro
  refine And.intro (fun wx hx => ?_) ?_
  · have e0 := below_fact hx rfl c0
    have e1 := below_fact hx rfl c2
    go_simp
    try rfl
  go_simp
  refine hK1 _ ?_
  clear hK1 K1
  refine wpPre_e rfl rfl (fun K1 hK1 => ?_)
  apply Exists.intro
  refine And.intro (fun wx hx => ?_) ?_
  · go_simp
    try rfl
  go_simp
  refine hK1 _ ?_
  clear hK1 K1
  refine wpPre_e rfl rfl (fun K1 hK1 => ?_)
  apply Exists.intro
  refine And.intro (fun wx hx => ?_) ?_
  · go_simp
    try rfl
  go_simp
  refine hK1 _ ?_
  clear hK1 K1
  refine wpPre_nil ?_
  refine wpStg_nil ?_
  clear hw
  go_wp2
  refine bodyPost_ret (v := .int .i64 ((X.R.n : Int) - (X.oR : Int))) (by simp [results, Try.results40, go_sem]) rfl ⟨by rw [HE.out], (Below.refl _ _).drew⟩
structure InQ (B0 : Nat) (w : World) (k : Nat) (X : Bb) (x : IT) (X' : Bb) (w' : World) : Prop where
  set : BSet B0 w k X w' X'
  r : X'.R.toL = X.R.toL ++ (if 0 < x.mark then [] else [x.r])
  m : X'.M.toL = X.M.toL ++ (if 0 < x.mark then [x.mark] else [])
  oR : X'.oR = X.oR
  oM : X'.oM = X.oM
theorem own_near {w : World} {v v6 : Value} {g : Nat} (hn6 : Near w v v6) (hg : v6.ownBlock = some g) : v.ownBlock = some g ∨ w.heap.size ≤ g := by
  rcases hn6 with e | e
  · exact .inl (e ▸ hg)
  · exact .inr (e g hg)
set_option maxRecDepth 60000 in
set_option maxHeartbeats 8000000 in
/-- in -/
theorem in_any (B0 : Nat) (w : World) (k : Nat) (X : Bb) (h : BbI B0 w k X) (x : IT) (hx : IT.In w (fun b => b < B0) x) (hR : X.R.n < 10000) (hM : X.M.n < 10000) : Calls Try.prog 60 #[.pointer (some ⟨k, 0, none⟩), .agg #[.int .i64 x.mark, .string x.r.key, .int .i64 x.r.v.kind, .int .i64 x.r.v.int, .string x.r.v.text, .slice x.r.v.p x.r.v.n x.r.v.c, .slice x.r.p x.r.n x.r.c]] w fun e w' => e = .returned (.tuple #[]) ∧ ∃ X', InQ B0 w k X x X' w' := by
  obtain ⟨W, hW⟩ : ∃ W, W = w.alloc (.cells #[.int .i64 x.mark, .string x.r.key, .int .i64 x.r.v.kind, .int .i64 x.r.v.int, .string x.r.v.text, .slice x.r.v.p x.r.v.n x.r.v.c, .slice x.r.p x.r.n x.r.c] 35) := ⟨_, rfl⟩
  have hB : Below w.heap.size w W := by rw [hW]; exact (Below.refl _ _).alloc (Nat.le_refl _) _
  have hXb : Box W w.heap.size #[.int .i64 x.mark, .string x.r.key, .int .i64 x.r.v.kind, .int .i64 x.r.v.int, .string x.r.v.text, .slice x.r.v.p x.r.v.n x.r.v.c, .slice x.r.p x.r.n x.r.c] 35 := by rw [hW]; exact Box.new _ _ _
  have hI := h.below hB
  have HI := hid hI
  have H0 := hid h
  have HB := hid hB
  have HW := hid hW
  have HX := hid (hx.below hB)
  have c0 : W.cell? ⟨k, 0, none⟩ = some (.slice X.R.p X.R.n X.R.c) := by rw [hI.box.cell]; rfl
  have c1 : W.cell? ⟨k, 1, none⟩ = some (.slice X.M.p X.M.n X.M.c) := by rw [hI.box.cell]; rfl
  have bl := hI.box.lt
  have hkl := h.box.lt
  have z0 := hXb.cell 0
  have z1 := hXb.cell 1
  have z2 := hXb.cell 2
  have z3 := hXb.cell 3
  have z4 := hXb.cell 4
  have z5 := hXb.cell 5
  have z6 := hXb.cell 6
  simp at z0 z1 z2 z3 z4 z5 z6
  have zl := hXb.lt
  obtain ⟨i0, Kd⟩ := kindIc
  obtain ⟨i1, Kr⟩ := kindRs
  have HKd := hid Kd
  have HKr := hid Kr
  have hB0 : B0 ≤ w.heap.size := Nat.le_of_lt (Nat.lt_of_le_of_lt h.kb hkl)
  clear h hB hXb hI hW hx Kd Kr
  by_cases hm : 0 < x.mark
  · go_enter Try.func60, Try.ntmps60
    go_upto_region 1 with fail
    rw [← HW.out]
    go_upto_region 2 with fail
    refine wp_region_calmE 30 (fun wx => Below W.heap.size W wx) [(0, true), (1, true), (2, true), (3, true), (4, false), (5, true), (6, false)] (.one 7 true [] (.one 8 false [(9, true), (10, true)] (.one 11 false [] .done))) (by kernel_rfl) (by kernel_rfl) (Below.refl _ _).drew ?_
    refine wpPre_e rfl rfl (fun K1 hK1 => ?_)
    apply Exists.intro
    refine And.intro (fun wx hx => ?_) ?_
    · go_simp
      try rfl
    go_simp
    refine hK1 _ ?_
    clear hK1 K1
    refine wpPre_e rfl rfl (fun K1 hK1 => ?_)
    apply Exists.intro
    refine And.intro (fun wx hx => ?_) ?_
    · go_simp
      try rfl
    go_simp
    refine hK1 _ ?_
    clear hK1 K1
    refine wpPre_e rfl rfl (fun K1 hK1 => ?_)
    apply Exists.intro
    refine And.intro (fun wx hx => ?_) ?_
    · go_simp
      try rfl
    go_simp
    refine hK1 _ ?_
    clear hK1 K1
    refine wpPre_e rfl rfl (fun K1 hK1 => ?_)
    apply Exists.intro
    refine And.intro (fun wx hx => ?_) ?_
    · go_simp
      try rfl
    go_simp
    refine hK1 _ ?_
    clear hK1 K1
    refine wpPre_e rfl rfl (fun K1 hK1 => ?_)
    apply Exists.intro
    refine And.intro (fun wx hx => ?_) ?_
    · have e0 := below_fact hx rfl c0
      have e1 := below_fact hx rfl c1
      have e2 := below_fact hx rfl z0
      have e3 := below_fact hx rfl z1
      have e4 := below_fact hx rfl z2
      have e5 := below_fact hx rfl z3
      have e6 := below_fact hx rfl z4
      have e7 := below_fact hx rfl z5
      have e8 := below_fact hx rfl z6
      go_simp
      try rfl
    go_simp
    refine hK1 _ ?_
    clear hK1 K1
    refine wpPre_e rfl rfl (fun K1 hK1 => ?_)
    apply Exists.intro
    refine And.intro (fun wx hx => ?_) ?_
    · go_simp
      try rfl
    go_simp
    refine hK1 _ ?_
    clear hK1 K1
    refine wpPre_e rfl rfl (fun K1 hK1 => ?_)
    apply Exists.intro
    refine And.intro (fun wx hx => ?_) ?_
    · have e0 := below_fact hx rfl c0
      have e1 := below_fact hx rfl c1
      have e2 := below_fact hx rfl z0
      have e3 := below_fact hx rfl z1
      have e4 := below_fact hx rfl z2
      have e5 := below_fact hx rfl z3
      have e6 := below_fact hx rfl z4
      have e7 := below_fact hx rfl z5
      have e8 := below_fact hx rfl z6
      go_simp
      try rfl
    go_simp
    refine hK1 _ ?_
    clear hK1 K1
    refine wpPre_nil ?_
    refine wpTr_e rfl (fun K1 hK1 => ?_)
    go_simp
    have hb5 : Below W.heap.size W (W.alloc (.cells #[.int .i64 x.mark] 3)).drew := ((Below.refl W.heap.size W).alloc (Nat.le_refl _) _).drew
    refine hK1 _ _ (fun _ => hb5) ?_
    clear hK1 K1
    refine wpPre_nil ?_
    refine wpTr_e rfl (fun K1 hK1 => ?_)
    have hI5 := HI.out.below hb5
    have hnews : ∀ j u', (elInt.cells x.mark)[j]? = some u' → ((W.alloc (.cells #[.int .i64 x.mark] 3)).drew).cell? ((⟨W.heap.size, 0, none⟩ : Addr).add j) = some u' := fun j u' hu => by
      show (W.alloc (.cells #[.int .i64 x.mark] 3)).cell? _ = _
      rw [Go.WideShapes.add_plain, (Box.new W #[.int .i64 x.mark] 3).cell]
      rw [show 0 + j = j by omega]
      simpa [elInt] using hu
    have HX5 := hid (And.intro hI5 (And.intro hb5 hnews))
    clear hI5 hnews hb5
    refine step_app rfl (.tmp 11) (.tmp 14) 31 3 i0 _ 1 8 HKd.out rfl B0 (.slice X.M.p X.M.n X.M.c) X.M.n (rowsE elInt X.M) rfl HX5.out.1.o2 ⟨W.heap.size, 0, none⟩ 1 1 (elInt.cells x.mark) rfl rfl HX5.out.2.2 (elInt.one _) (by omega) (by omega) (by have := HX5.out.2.1.size; have := HB.out.size; omega) ?_
    intro v6 w6 ho6 hg6 hn6
    obtain ⟨p6, c6, rfl⟩ := ownsRow_slice ho6
    have hbt6 : But (fun j => (Value.slice X.M.p X.M.n X.M.c).ownBlock = some j) W w6 := (But.ofBelow HX5.out.2.1).trans ((But.refl _ _).grown hg6 fun j hj _ => hj)
    have hb6 := HI.out.box.but hbt6 HI.out.d2
    have y1 : w6.cell? ⟨k, 1, none⟩ = some (.slice X.M.p X.M.n X.M.c) := by rw [hb6.cell]; rfl
    have g1 := hb6.frozen 1
    have hlt6 := hb6.lt
    rw [← rowsE_push elInt X.M p6 c6 x.mark] at ho6
    have HS6 : Hid (InQ B0 w k X x ⟨X.R, X.M.push p6 c6 x.mark, X.oR, X.oM⟩ (w6.setCell ⟨k, 1, none⟩ (.slice p6 (X.M.n + 1) c6))) := by
      have hs := (But.one w6 k).setAt 1 (.slice p6 (X.M.n + 1) c6)
      have hnear : ∀ g, (Value.slice p6 (X.M.n + 1) c6).ownBlock = some g → (Value.slice X.M.p X.M.n X.M.c).ownBlock = some g ∨ W.heap.size ≤ g := fun g hg => by
        rcases own_near hn6 hg with e | e
        · exact .inl e
        · exact .inr (by have := HX5.out.2.1.size; omega)
      have hkk : ∀ g, (Value.slice p6 (X.M.n + 1) c6).ownBlock = some g → g ≠ k := fun g hg e => by
        rcases hnear g hg with e2 | e2
        · exact HI.out.d2 (e ▸ e2)
        · omega
      have hbtw : But (X.C k) w (w6.setCell ⟨k, 1, none⟩ (.slice p6 (X.M.n + 1) c6)) := by
        refine ⟨hs.os.trans (hbt6.os.trans HB.out.os), hs.tape.trans (hbt6.tape.trans HB.out.tape), hs.output.trans (hbt6.output.trans HB.out.output), by have := hs.size; have := hbt6.size; have := HB.out.size; omega, fun j hj hn => ?_⟩
        exact (hs.block j (by have := hbt6.size; have := HB.out.size; omega) fun e => hn (.inl e)).trans ((hbt6.block j (by have := HB.out.size; omega) fun e => hn (.inr (.inr e))).trans (HB.out.block j hj))
      refine ⟨⟨⟨?_, ?_, ?_, HI.out.kb, HI.out.d1, fun e => hkk k e rfl, fun g hg e => ?_, fun j hj => (H0.out.el j hj).kept hbtw.size fun g hg hl => hbtw.block g hl fun e => by have := (H0.out.c_lt e).1; omega, fun j hj => ?_, HI.out.rn, by show X.M.n + 1 ≤ 10000; omega, HI.out.b1, by show X.oM ≤ X.M.n + 1; have := HI.out.b2; omega⟩, hbtw, fun j hj => ?_⟩, by rw [if_pos hm]; simp, by rw [if_pos hm]; exact LT.push_toL _ _ _ _, rfl, rfl⟩
      · have h5 := hb6.set 1 (.slice p6 (X.M.n + 1) c6)
        show Box _ k #[.slice X.R.p X.R.n X.R.c, .slice p6 (X.M.n + 1) c6, .int .i64 (X.oR : Int), .int .i64 (X.oM : Int)] 57
        simpa only [List.setIfInBounds_toArray, List.set_cons_zero, List.set_cons_succ] using h5
      · exact ownsRow_keep (ownsRow_keep HI.out.o1 fun g hg hl => hbt6.block g hl fun e => HI.out.d3 g hg e) fun g hg hl => hs.block g hl fun e => HI.out.d1 (e ▸ hg)
      · exact ownsRow_keep ho6 fun g hg hl => hs.block g hl (hkk g hg)
      · rcases hnear g e with e2 | e2
        · exact HI.out.d3 g hg e2
        · have := (HI.out.o1.lt g hg).2; omega
      · show elInt.In _ _ (if j < X.M.n then X.M.item j else x.mark)
        by_cases hjm : j < X.M.n
        · rw [if_pos hjm]; exact HI.out.mi j hjm
        · rw [if_neg hjm]; exact ⟨HX.out.m0, HX.out.m1⟩
      · rcases hj with e | e | e
        · exact .inl (.inl e)
        · exact .inl (.inr (.inl e))
        · rcases hnear j e with e2 | e2
          · exact .inl (.inr (.inr e2))
          · exact .inr (by have := HB.out.size; omega)
    clear ho6 hg6 hn6 hb6 HX5 hbt6
    go_simp
    refine hK1 _ _ (fun h => by cases h) ?_
    clear hK1 K1
    refine wpPre_e rfl rfl (fun K1 hK1 => ?_)
    apply Exists.intro
    refine And.intro (fun wx hx => ?_) ?_
    · go_simp
      try rfl
    go_simp
    refine hK1 _ ?_
    clear hK1 K1
    refine wpPre_e rfl rfl (fun K1 hK1 => ?_)
    apply Exists.intro
    refine And.intro (fun wx hx => ?_) ?_
    · go_simp
      try rfl
    go_simp
    refine hK1 _ ?_
    clear hK1 K1
    refine wpPre_nil ?_
    refine wpTr_e rfl (fun K1 hK1 => ?_)
    go_simp
    refine hK1 _ _ (fun h => by cases h) ?_
    clear hK1 K1
    refine wpPre_nil ?_
    refine wpTr_done ?_
    go_wp2
    go_end0
    exact ⟨rfl, _, HS6.out⟩
  · go_enter Try.func60, Try.ntmps60
    go_upto_region 1 with fail
    rw [← HW.out]
    go_upto_region 3 with fail
    refine wp_region_calmE 30 (fun wx => Below W.heap.size W wx) [(0, true), (1, true), (2, true), (3, true), (4, false), (5, true), (6, false)] (.one 7 true [] (.one 8 false [(9, true), (10, true)] (.one 11 false [] .done))) (by kernel_rfl) (by kernel_rfl) (Below.refl _ _).drew ?_
    refine wpPre_e rfl rfl (fun K1 hK1 => ?_)
    apply Exists.intro
    refine And.intro (fun wx hx => ?_) ?_
    · go_simp
      try rfl
    go_simp
    refine hK1 _ ?_
    clear hK1 K1
    refine wpPre_e rfl rfl (fun K1 hK1 => ?_)
    apply Exists.intro
    refine And.intro (fun wx hx => ?_) ?_
    · go_simp
      try rfl
    go_simp
    refine hK1 _ ?_
    clear hK1 K1
    refine wpPre_e rfl rfl (fun K1 hK1 => ?_)
    apply Exists.intro
    refine And.intro (fun wx hx => ?_) ?_
    · go_simp
      try rfl
    go_simp
    refine hK1 _ ?_
    clear hK1 K1
    refine wpPre_e rfl rfl (fun K1 hK1 => ?_)
    apply Exists.intro
    refine And.intro (fun wx hx => ?_) ?_
    · go_simp
      try rfl
    go_simp
    refine hK1 _ ?_
    clear hK1 K1
    refine wpPre_e rfl rfl (fun K1 hK1 => ?_)
    apply Exists.intro
    refine And.intro (fun wx hx => ?_) ?_
    · have e0 := below_fact hx rfl c0
      have e1 := below_fact hx rfl c1
      have e2 := below_fact hx rfl z0
      have e3 := below_fact hx rfl z1
      have e4 := below_fact hx rfl z2
      have e5 := below_fact hx rfl z3
      have e6 := below_fact hx rfl z4
      have e7 := below_fact hx rfl z5
      have e8 := below_fact hx rfl z6
      go_simp
      try rfl
    go_simp
    refine hK1 _ ?_
    clear hK1 K1
    refine wpPre_e rfl rfl (fun K1 hK1 => ?_)
    apply Exists.intro
    refine And.intro (fun wx hx => ?_) ?_
    · go_simp
      try rfl
    go_simp
    refine hK1 _ ?_
    clear hK1 K1
    refine wpPre_e rfl rfl (fun K1 hK1 => ?_)
    apply Exists.intro
    refine And.intro (fun wx hx => ?_) ?_
    · have e0 := below_fact hx rfl c0
      have e1 := below_fact hx rfl c1
      have e2 := below_fact hx rfl z0
      have e3 := below_fact hx rfl z1
      have e4 := below_fact hx rfl z2
      have e5 := below_fact hx rfl z3
      have e6 := below_fact hx rfl z4
      have e7 := below_fact hx rfl z5
      have e8 := below_fact hx rfl z6
      go_simp
      try rfl
    go_simp
    refine hK1 _ ?_
    clear hK1 K1
    refine wpPre_nil ?_
    refine wpTr_e rfl (fun K1 hK1 => ?_)
    go_simp
    have hb5 : Below W.heap.size W (W.alloc (.cells #[.string x.r.key, .int .i64 x.r.v.kind, .int .i64 x.r.v.int, .string x.r.v.text, .slice x.r.v.p x.r.v.n x.r.v.c, .slice x.r.p x.r.n x.r.c] 33)).drew := ((Below.refl W.heap.size W).alloc (Nat.le_refl _) _).drew
    refine hK1 _ _ (fun _ => hb5) ?_
    clear hK1 K1
    refine wpPre_nil ?_
    refine wpTr_e rfl (fun K1 hK1 => ?_)
    have hI5 := HI.out.below hb5
    have hnews : ∀ j u', (elRec.cells x.r)[j]? = some u' → ((W.alloc (.cells #[.string x.r.key, .int .i64 x.r.v.kind, .int .i64 x.r.v.int, .string x.r.v.text, .slice x.r.v.p x.r.v.n x.r.v.c, .slice x.r.p x.r.n x.r.c] 33)).drew).cell? ((⟨W.heap.size, 0, none⟩ : Addr).add j) = some u' := fun j u' hu => by
      show (W.alloc (.cells #[.string x.r.key, .int .i64 x.r.v.kind, .int .i64 x.r.v.int, .string x.r.v.text, .slice x.r.v.p x.r.v.n x.r.v.c, .slice x.r.p x.r.n x.r.c] 33)).cell? _ = _
      rw [Go.WideShapes.add_plain, (Box.new W #[.string x.r.key, .int .i64 x.r.v.kind, .int .i64 x.r.v.int, .string x.r.v.text, .slice x.r.v.p x.r.v.n x.r.v.c, .slice x.r.p x.r.n x.r.c] 33).cell]
      rw [show 0 + j = j by omega]
      simpa [elRec, RT.cells] using hu
    have HX5 := hid (And.intro hI5 (And.intro hb5 hnews))
    clear hI5 hnews hb5
    refine step_app rfl (.tmp 22) (.tmp 25) 38 33 i1 _ 6 96 HKr.out rfl B0 (.slice X.R.p X.R.n X.R.c) X.R.n (rowsE elRec X.R) rfl HX5.out.1.o1 ⟨W.heap.size, 0, none⟩ 1 1 (elRec.cells x.r) rfl rfl HX5.out.2.2 (elRec.one _) (by omega) (by omega) (by have := HX5.out.2.1.size; have := HB.out.size; omega) ?_
    intro v6 w6 ho6 hg6 hn6
    obtain ⟨p6, c6, rfl⟩ := ownsRow_slice ho6
    have hbt6 : But (fun j => (Value.slice X.R.p X.R.n X.R.c).ownBlock = some j) W w6 := (But.ofBelow HX5.out.2.1).trans ((But.refl _ _).grown hg6 fun j hj _ => hj)
    have hb6 := HI.out.box.but hbt6 HI.out.d1
    have y1 : w6.cell? ⟨k, 0, none⟩ = some (.slice X.R.p X.R.n X.R.c) := by rw [hb6.cell]; rfl
    have g1 := hb6.frozen 0
    have hlt6 := hb6.lt
    rw [← rowsE_push elRec X.R p6 c6 x.r] at ho6
    have HS6 : Hid (InQ B0 w k X x ⟨X.R.push p6 c6 x.r, X.M, X.oR, X.oM⟩ (w6.setCell ⟨k, 0, none⟩ (.slice p6 (X.R.n + 1) c6))) := by
      have hs := (But.one w6 k).setAt 0 (.slice p6 (X.R.n + 1) c6)
      have hnear : ∀ g, (Value.slice p6 (X.R.n + 1) c6).ownBlock = some g → (Value.slice X.R.p X.R.n X.R.c).ownBlock = some g ∨ W.heap.size ≤ g := fun g hg => by
        rcases own_near hn6 hg with e | e
        · exact .inl e
        · exact .inr (by have := HX5.out.2.1.size; omega)
      have hkk : ∀ g, (Value.slice p6 (X.R.n + 1) c6).ownBlock = some g → g ≠ k := fun g hg e => by
        rcases hnear g hg with e2 | e2
        · exact HI.out.d1 (e ▸ e2)
        · omega
      have hbtw : But (X.C k) w (w6.setCell ⟨k, 0, none⟩ (.slice p6 (X.R.n + 1) c6)) := by
        refine ⟨hs.os.trans (hbt6.os.trans HB.out.os), hs.tape.trans (hbt6.tape.trans HB.out.tape), hs.output.trans (hbt6.output.trans HB.out.output), by have := hs.size; have := hbt6.size; have := HB.out.size; omega, fun j hj hn => ?_⟩
        exact (hs.block j (by have := hbt6.size; have := HB.out.size; omega) fun e => hn (.inl e)).trans ((hbt6.block j (by have := HB.out.size; omega) fun e => hn (.inr (.inl e))).trans (HB.out.block j hj))
      refine ⟨⟨⟨?_, ?_, ?_, HI.out.kb, fun e => hkk k e rfl, HI.out.d2, fun g hg e => ?_, fun j hj => ?_, HI.out.mi, by show X.R.n + 1 ≤ 10000; omega, HI.out.mn, by show X.oR ≤ X.R.n + 1; have := HI.out.b1; omega, HI.out.b2⟩, hbtw, fun j hj => ?_⟩, by rw [if_neg hm]; exact LT.push_toL _ _ _ _, by rw [if_neg hm]; simp, rfl, rfl⟩
      · have h5 := hb6.set 0 (.slice p6 (X.R.n + 1) c6)
        show Box _ k #[.slice p6 (X.R.n + 1) c6, .slice X.M.p X.M.n X.M.c, .int .i64 (X.oR : Int), .int .i64 (X.oM : Int)] 57
        simpa only [List.setIfInBounds_toArray, List.set_cons_zero, List.set_cons_succ] using h5
      · exact ownsRow_keep ho6 fun g hg hl => hs.block g hl (hkk g hg)
      · exact ownsRow_keep (ownsRow_keep HI.out.o2 fun g hg hl => hbt6.block g hl fun e => HI.out.d3 g e hg) fun g hg hl => hs.block g hl fun e => HI.out.d2 (e ▸ hg)
      · rcases hnear g hg with e2 | e2
        · exact HI.out.d3 g e2 e
        · have := (HI.out.o2.lt g e).2; omega
      · show RT.In _ _ (if j < X.R.n then X.R.item j else x.r)
        by_cases hjm : j < X.R.n
        · rw [if_pos hjm]
          exact (H0.out.el j hjm).kept hbtw.size fun g hg hl => hbtw.block g hl fun e => by have := (H0.out.c_lt e).1; omega
        · rw [if_neg hjm]
          have h7 : RT.In W (fun b => b < B0) x.r := HX.out.r
          refine h7.kept (by have := hs.size; have := hbt6.size; omega) fun g hg hl => ?_
          exact (hs.block g (by have := hbt6.size; omega) (by have := HI.out.kb; omega)).trans (hbt6.block g hl fun e => by have := (HI.out.o1.lt g e).1; omega)
      · rcases hj with e | e | e
        · exact .inl (.inl e)
        · rcases hnear j e with e2 | e2
          · exact .inl (.inr (.inl e2))
          · exact .inr (by have := HB.out.size; omega)
        · exact .inl (.inr (.inr e))
    clear ho6 hg6 hn6 hb6 HX5 hbt6
    go_simp
    refine hK1 _ _ (fun h => by cases h) ?_
    clear hK1 K1
    refine wpPre_e rfl rfl (fun K1 hK1 => ?_)
    apply Exists.intro
    refine And.intro (fun wx hx => ?_) ?_
    · go_simp
      try rfl
    go_simp
    refine hK1 _ ?_
    clear hK1 K1
    refine wpPre_e rfl rfl (fun K1 hK1 => ?_)
    apply Exists.intro
    refine And.intro (fun wx hx => ?_) ?_
    · go_simp
      try rfl
    go_simp
    refine hK1 _ ?_
    clear hK1 K1
    refine wpPre_nil ?_
    refine wpTr_e rfl (fun K1 hK1 => ?_)
    go_simp
    refine hK1 _ _ (fun h => by cases h) ?_
    clear hK1 K1
    refine wpPre_nil ?_
    refine wpTr_done ?_
    go_wp2
    go_end0
    exact ⟨rfl, _, HS6.out⟩
end Go.Proofs.Ytpldokahoamdpaa

namespace Go.Proofs.Ytpldokahoamdpaa
open Go.RowKit Go.Conc
set_option maxRecDepth 8000
theorem own_listS {α : Type} {E : El α} {base : Nat} {w : World} {S : Nat → Prop} {l : LT α} (h : w.ownsRow base E.ty E.size (.slice l.p l.n l.c) l.n (rowsE E l)) (he : ∀ j, j < l.n → E.In w S (l.item j)) (hS : ∀ b, (Value.slice l.p l.n l.c).ownBlock = some b → S b) (hn : l.n ≤ 140737488355328) : LT.In E w S l := by
  have hlt := h.lt
  have hce := @World.ownsRow.cells _ _ _ _ _ _ _ h
  obtain ⟨_, ⟨hv, h0⟩ | ⟨gb, cap, cur, hv, hbg, hh, hnc, hcm, hcs, htake⟩⟩ := id h
  · injection hv with hp _ hc
    refine ⟨fun h => absurd h (by omega), he, by omega, hn, by rw [hc]; exact Nat.zero_le _, fun _ => ⟨h0, hc⟩⟩
  · injection hv with hp _ hc
    refine ⟨fun hn => ⟨gb, 0, hp, hS gb (by rw [hp]; rfl), (hlt gb (by rw [hp]; rfl)).2, fun j hj r u hu => ?_⟩, he, by omega, hn, by omega, fun e => by rw [hp] at e; cases e⟩
    have hr : r < E.size := by
      rcases Nat.lt_or_ge r E.size with h1 | h1
      · exact h1
      · rw [List.getElem?_eq_none (by rw [E.len]; exact h1)] at hu; cases hu
    have := hce (g := gb) (by rw [hp]; rfl) (j * E.size + r) u (by unfold rowsE; rw [range_flat_get E l.item l.n j r hj hr]; exact hu)
    rw [Go.WideShapes.add_plain] at this
    rw [show (0 : Nat) + j * E.size + r = 0 + (j * E.size + r) by omega]
    exact this
/-- the reference's lane -/
structure Rf where
  room : Int
  shut : Bool
  l : LT IT
def Rf.own (R : Rf) : Option Nat := (Value.slice R.l.p R.l.n R.l.c).ownBlock
def Rf.C (R : Rf) (b k : Nat) : Prop := k = b ∨ R.own = some k
structure RfI (w : World) (Z : Nat → Prop) (b : Nat) (R : Rf) : Prop where
  box : Box w b #[.int .i64 R.room, .bool R.shut, .slice R.l.p R.l.n R.l.c] 85
  own : w.ownsRow 0 35 7 (.slice R.l.p R.l.n R.l.c) R.l.n (rowsE elItem R.l)
  d : R.own ≠ some b
  r0 : 0 ≤ R.room
  r1 : R.room ≤ 8
  len : R.l.n ≤ 30000
  it : ∀ j, j < R.l.n → IT.In w (fun k => ¬ R.C b k ∧ ¬ Z k) (R.l.item j) ∧ IT.Fine (R.l.item j)
  cz : ∀ k, R.C b k → ¬ Z k
  sh : R.shut = true → R.l.n = 0
section
variable {w w' : World} {Z : Nat → Prop} {b : Nat} {R : Rf}
theorem RfI.c_lt (h : RfI w Z b R) {k : Nat} (hk : R.C b k) : k < w.heap.size := by
  rcases hk with rfl | e
  · exact h.box.lt
  · exact (h.own.lt k e).2
theorem RfI.but {X : Nat → Prop} (h : RfI w Z b R) (hb : But X w w') (hx : ∀ k, k < w.heap.size → X k → Z k) : RfI w' Z b R := by
  have hk : ∀ k, k < w.heap.size → ¬ Z k → w'.heap[k]? = w.heap[k]? := fun k hl hz => hb.block k hl fun e => hz (hx k hl e)
  exact ⟨h.box.kept (hk _ h.box.lt (h.cz _ (.inl rfl))), ownsRow_keep h.own fun g hg hl => hk g hl (h.cz g (.inr hg)), h.d, h.r0, h.r1, h.len, fun j hj => ⟨(h.it j hj).1.kept hb.size (fun k hz hl => hk k hl hz.2), (h.it j hj).2⟩, h.cz, h.sh⟩
theorem RfI.below (h : RfI w Z b R) (hb : Below w.heap.size w w') : RfI w' Z b R := h.but (X := fun _ => False) (But.ofBelow hb) fun _ _ e => e.elim
theorem RfI.z {Z' : Nat → Prop} (h : RfI w Z b R) (hz : ∀ k, k < w.heap.size → Z' k → Z k) : RfI w Z' b R :=
  ⟨h.box, h.own, h.d, h.r0, h.r1, h.len, fun j hj => ⟨(h.it j hj).1.mono fun k hk hl => ⟨hk.1, fun e => hk.2 (hz k hl e)⟩, (h.it j hj).2⟩, fun k hk e => h.cz k hk (hz k (h.c_lt hk) e), h.sh⟩
theorem RfI.in_ (h : RfI w Z b R) : LT.In elItem w (fun k => k ≠ b ∧ ¬ Z k) R.l :=
  own_listS (E := elItem) h.own (fun j hj => (h.it j hj).1.mono fun k hk _ => ⟨fun e => hk.1 (.inl e), hk.2⟩) (fun k hk => ⟨fun e => h.d (e ▸ hk), h.cz k (.inr hk)⟩) (by have := h.len; omega)
theorem RfI.c0 (h : RfI w Z b R) : w.cell? ⟨b, 0, none⟩ = some (.int .i64 R.room) := by rw [h.box.cell]; rfl
theorem RfI.c1 (h : RfI w Z b R) : w.cell? ⟨b, 1, none⟩ = some (.bool R.shut) := by rw [h.box.cell]; rfl
theorem RfI.c2 (h : RfI w Z b R) : w.cell? ⟨b, 2, none⟩ = some (.slice R.l.p R.l.n R.l.c) := by rw [h.box.cell]; rfl
end
/-- what a call made of the reference's lane -/
structure RSet (w : World) (Z : Nat → Prop) (b : Nat) (R : Rf) (w' : World) (R' : Rf) : Prop where
  ln : RfI w' Z b R'
  but : But (R.C b) w w'
  c : ∀ k, R'.C b k → R.C b k ∨ w.heap.size ≤ k
  room : R'.room = R.room
theorem RSet.refl {w : World} {Z : Nat → Prop} {b : Nat} {R : Rf} (h : RfI w Z b R) : RSet w Z b R w R := ⟨h, But.refl _ _, fun _ hk => .inl hk, rfl⟩
theorem RSet.below {w w' : World} {Z : Nat → Prop} {b : Nat} {R : Rf} (h : RfI w Z b R) (hb : Below w.heap.size w w') : RSet w Z b R w' R := ⟨h.below hb, But.ofBelow hb, fun _ hk => .inl hk, rfl⟩
theorem RSet.trans {w w1 w2 : World} {Z : Nat → Prop} {b : Nat} {R R1 R2 : Rf} (h : RSet w Z b R w1 R1) (g : RSet w1 Z b R1 w2 R2) : RSet w Z b R w2 R2 := by
  refine ⟨g.ln, ⟨g.but.os.trans h.but.os, g.but.tape.trans h.but.tape, g.but.output.trans h.but.output, Nat.le_trans h.but.size g.but.size, fun k hk hn => ?_⟩, fun k hk => ?_, g.room.trans h.room⟩
  · refine (g.but.block k (Nat.lt_of_lt_of_le hk h.but.size) fun hc => ?_).trans (h.but.block k hk hn)
    rcases h.c k hc with e | e
    · exact hn e
    · omega
  · rcases g.c k hk with h1 | h1
    · exact h.c k h1
    · exact .inr (Nat.le_trans h.but.size h1)
theorem RSet.z {w w' : World} {Z Z' : Nat → Prop} {b : Nat} {R R' : Rf} (h : RSet w Z b R w' R') (hz : ∀ k, Z' k → Z k) : RSet w Z' b R w' R' := ⟨h.ln.z fun k _ hk => hz k hk, h.but, h.c, h.room⟩
theorem RSet.keep {α : Type} (E : El α) {w w' : World} {Z T : Nat → Prop} {b : Nat} {R R' : Rf} {x : α} (h : RSet w Z b R w' R') (hx : E.In w (fun k => ¬ R.C b k ∧ T k) x) : E.In w' (fun k => ¬ R'.C b k ∧ T k) x := by
  have h1 := E.mono (S' := fun k => (¬ R.C b k ∧ T k) ∧ k < w.heap.size) hx fun k hk hl => ⟨hk, hl⟩
  have h2 := E.kept h1 h.but.size fun k hk hl => h.but.block k hl hk.1.1
  refine E.mono h2 fun k hk _ => ⟨fun e => ?_, hk.1.2⟩
  rcases h.c k e with e | e
  · exact hk.1.1 e
  · omega
set_option maxHeartbeats 2000000 in
/-- New -/
theorem rnew_bad (room : Int) (w : World) (h : room < 0 ∨ 8 < room) : Calls Try.prog 24 #[.int .i64 room] w fun e w' => e = .returned (.tuple #[.pointer none, .int .i64 50]) ∧ w' = w := by
  by_cases h0 : room < 0
  · go_enter Try.func24, Try.ntmps24
    go_wp2
    refine bodyPost_ret (v := .tuple #[.pointer none, .int .i64 50]) (by simp [results, Try.results24, go_sem]) rfl ⟨rfl, rfl⟩
  · have h1 : 8 < room := by omega
    go_enter Try.func24, Try.ntmps24
    go_wp2
    refine bodyPost_ret (v := .tuple #[.pointer none, .int .i64 50]) (by simp [results, Try.results24, go_sem]) rfl ⟨rfl, rfl⟩
set_option maxHeartbeats 2000000 in
theorem rnew_ok (room : Int) (w : World) (h0 : 0 ≤ room) (h8 : room ≤ 8) (Z : Nat → Prop) (hZ : ∀ k, Z k → k < w.heap.size) : Calls Try.prog 24 #[.int .i64 room] w fun e w' => e = .returned (.tuple #[.pointer (some ⟨w.heap.size, 0, none⟩), .int .i64 0]) ∧ RfI w' Z w.heap.size ⟨room, false, ⟨none, 0, 0, fun _ => ⟨0, rz⟩⟩⟩ ∧ Below w.heap.size w w' := by
  have g0 : ¬ room < 0 := by omega
  have g8 : ¬ 8 < room := by omega
  have HZ := hid hZ
  clear hZ
  go_enter Try.func24, Try.ntmps24
  go_wp2
  refine bodyPost_ret (v := .tuple #[.pointer (some ⟨w.heap.size, 0, none⟩), .int .i64 0]) (by simp [results, Try.results24, go_sem]) rfl ⟨rfl, ?_, (Below.refl _ _).alloc (Nat.le_refl _) _⟩
  refine ⟨Box.new _ _ _, World.ownsRow_nil _ _ _ _, (fun e => by cases e), h0, h8, Nat.zero_le _, fun j hj => absurd hj (Nat.not_lt_zero j), fun k hk hz => ?_, fun e => by cases e⟩
  rcases hk with e | e
  · have := HZ.out k hz; omega
  · cases e
set_option maxRecDepth 60000 in
set_option maxHeartbeats 4000000 in
/-- item: a marker leaves its record behind -/
theorem ritem (x : IT) (w : World) (S : Nat → Prop) (hx : IT.In w S x) (hs : x.r.n + x.r.v.total ≤ 10000) (hm0 : 0 ≤ x.mark) : Calls Try.prog 69 #[.agg #[.int .i64 x.mark, .string x.r.key, .int .i64 x.r.v.kind, .int .i64 x.r.v.int, .string x.r.v.text, .slice x.r.v.p x.r.v.n x.r.v.c, .slice x.r.p x.r.n x.r.c]] w fun e w' => CpQ w x e w' := by
  obtain ⟨W, hW⟩ : ∃ W, W = (w.alloc (.cells #[.int .i64 x.mark, .string x.r.key, .int .i64 x.r.v.kind, .int .i64 x.r.v.int, .string x.r.v.text, .slice x.r.v.p x.r.v.n x.r.v.c, .slice x.r.p x.r.n x.r.c] 35)).alloc (.cells #[.int .i64 0, .string ⟨#[]⟩, .int .i64 0, .int .i64 0, .string ⟨#[]⟩, .slice none 0 0, .slice none 0 0] 35) := ⟨_, rfl⟩
  have hT := TwoK.start w #[.int .i64 x.mark, .string x.r.key, .int .i64 x.r.v.kind, .int .i64 x.r.v.int, .string x.r.v.text, .slice x.r.v.p x.r.v.n x.r.v.c, .slice x.r.p x.r.n x.r.c] #[.int .i64 0, .string ⟨#[]⟩, .int .i64 0, .int .i64 0, .string ⟨#[]⟩, .slice none 0 0, .slice none 0 0] 35
  rw [← hW] at hT
  have HW := hid hW
  have HT1 := hid hT
  have HX := hid hx
  have z0 := hT.ba.cell 0
  have z1 := hT.ba.cell 1
  have z2 := hT.ba.cell 2
  have z3 := hT.ba.cell 3
  have z4 := hT.ba.cell 4
  have z5 := hT.ba.cell 5
  have z6 := hT.ba.cell 6
  simp at z0 z1 z2 z3 z4 z5 z6
  have y0 := hT.bb.cell 0
  have y1 := hT.bb.cell 1
  have y2 := hT.bb.cell 2
  have y3 := hT.bb.cell 3
  have y4 := hT.bb.cell 4
  have y5 := hT.bb.cell 5
  have y6 := hT.bb.cell 6
  simp at y0 y1 y2 y3 y4 y5 y6
  have f0 := hT.bb.frozen 0
  have f1 := hT.bb.frozen 1
  have f2 := hT.bb.frozen 2
  have f3 := hT.bb.frozen 3
  have f4 := hT.bb.frozen 4
  have f5 := hT.bb.frozen 5
  have f6 := hT.bb.frozen 6
  have yl := hT.bb.lt
  clear hT hW hx
  by_cases hm : x.mark = 0
  · have HM := hid hm
    have hng : ¬ 0 < x.mark := by omega
    have hr1 : RT.In W (fun k => k < w.heap.size) x.r := (HX.out.r.mono (S' := fun k => k < w.heap.size) fun k _ hl => hl).kept HT1.out.bel.size (fun k hk _ => HT1.out.bel.block k hk)
    have HF := hid (rr5 x.r W _ hr1 hs)
    clear hm hr1
    go_enter Try.func69, Try.ntmps69
    go_upto_region 1 with fail
    rw [← HW.out]
    go_wp2_with fail
    refine HF.out.mono ?_
    rintro e w1 ⟨u, rfl, hal, hin, hB1⟩
    obtain ⟨w2, hw2⟩ : ∃ V, V = w1.alloc (.cells #[.string u.key, .int .i64 u.v.kind, .int .i64 u.v.int, .string u.v.text, .slice u.v.p u.v.n u.v.c, .slice u.p u.n u.c] 33) := ⟨_, rfl⟩
    have hbx : Below w1.heap.size w1 w2 := by rw [hw2]; exact (Below.refl _ _).alloc (Nat.le_refl _) _
    have hxb : Box w2 w1.heap.size #[.string u.key, .int .i64 u.v.kind, .int .i64 u.v.int, .string u.v.text, .slice u.v.p u.v.n u.v.c, .slice u.p u.n u.c] 33 := by rw [hw2]; exact Box.new _ _ _
    have hT2 := (HT1.out.below hB1).below hbx
    have HT2 := hid hT2
    have HU := hid (And.intro hal (hin.below hbx))
    have HW2 := hid hw2
    clear z0 z1 z2 z3 z4 z5 z6 y0 y1 y2 y3 y4 y5 y6 f0 f1 f2 f3 f4 f5 f6 yl
    have y0 := hT2.bb.cell 0
    have y1 := hT2.bb.cell 1
    have y2 := hT2.bb.cell 2
    have y3 := hT2.bb.cell 3
    have y4 := hT2.bb.cell 4
    have y5 := hT2.bb.cell 5
    have y6 := hT2.bb.cell 6
    simp at y0 y1 y2 y3 y4 y5 y6
    have f0 := hT2.bb.frozen 0
    have f1 := hT2.bb.frozen 1
    have f2 := hT2.bb.frozen 2
    have f3 := hT2.bb.frozen 3
    have f4 := hT2.bb.frozen 4
    have f5 := hT2.bb.frozen 5
    have f6 := hT2.bb.frozen 6
    have yl := hT2.bb.lt
    have q0 := hxb.cell 0
    have q1 := hxb.cell 1
    have q2 := hxb.cell 2
    have q3 := hxb.cell 3
    have q4 := hxb.cell 4
    have q5 := hxb.cell 5
    simp at q0 q1 q2 q3 q4 q5
    have ql := hxb.lt
    have hs0 := HT1.out.bb.lt
    clear hal hin hB1 hT2 HF hbx hxb hw2
    go_upto_region 4 with fail
    rw [← HW2.out]
    go_wp2
    have hp := put7_but w2 (w.heap.size + 1) ⟨0, u⟩
    refine bodyPost_ret (v := .agg #[.int .i64 0, .string u.key, .int .i64 u.v.kind, .int .i64 u.v.int, .string u.v.text, .slice u.v.p u.v.n u.v.c, .slice u.p u.n u.c]) (by simp [results, Try.results69, go_sem, y0, y1, y2, y3, y4, y5, y6]) rfl ⟨⟨0, u⟩, rfl, ⟨HM.out.symm, fun _ => HU.out.1, fun e => absurd HM.out e⟩, ?_, ?_⟩
    · change IT.In (put7 w2 (w.heap.size + 1) ⟨0, u⟩) _ _
      exact ⟨(HU.out.2.kept hp.size fun k hk hl => hp.block k hl (by omega)).mono fun k hk _ => by omega, (by show (-9223372036854775808 : Int) ≤ 0; omega), (by show (0 : Int) ≤ 9223372036854775807; omega)⟩
    · change Below w.heap.size w (put7 w2 (w.heap.size + 1) ⟨0, u⟩)
      exact HT2.out.bel.trans (hp.below (by have := HT2.out.bel.size; omega) (fun k hk e => by omega))
  · have HM := hid hm
    have hpg : 0 < x.mark := by omega
    clear hm z1 z2 z3 z4 z5 z6
    go_enter Try.func69, Try.ntmps69
    go_upto_region 1 with fail
    rw [← HW.out]
    go_wp2
    have hp := put7_but W (w.heap.size + 1) ⟨x.mark, rz⟩
    refine bodyPost_ret (v := .agg #[.int .i64 x.mark, .string ⟨#[]⟩, .int .i64 0, .int .i64 0, .string ⟨#[]⟩, .slice none 0 0, .slice none 0 0]) (by simp [results, Try.results69, go_sem, y0, y1, y2, y3, y4, y5, y6]) rfl ⟨⟨x.mark, rz⟩, rfl, ⟨rfl, fun e => absurd e HM.out, fun _ => rfl⟩, ⟨rz_in _ _, HX.out.m0, HX.out.m1⟩, ?_⟩
    change Below w.heap.size w (put7 W (w.heap.size + 1) ⟨x.mark, rz⟩)
    exact HT1.out.bel.trans (hp.below (by have := HT1.out.bel.size; omega) (fun k hk e => by omega))
set_option maxHeartbeats 2000000 in
/-- Close -/
theorem rclose (w : World) (Z : Nat → Prop) (b : Nat) (R : Rf) (h : RfI w Z b R) : Calls Try.prog 55 #[.pointer (some ⟨b, 0, none⟩)] w fun e w' => e = .returned (.slice R.l.p R.l.n R.l.c) ∧ RSet w Z b R w' ⟨R.room, true, ⟨none, 0, 0, fun _ => ⟨0, rz⟩⟩⟩ ∧ LT.In elItem w' (fun k => k ≠ b ∧ ¬ Z k) R.l := by
  have c2 := h.c2
  have c1 := h.c1
  have bl := h.box.lt
  have f1 := h.box.frozen 1
  have f2 := h.box.frozen 2
  have HI := hid h
  clear h
  go_enter Try.func55, Try.ntmps55
  go_wp2
  have hs := ((But.one w b).setAt 2 (.slice none 0 0)).setAt 1 (.bool true)
  have h5 := (HI.out.box.set 2 (.slice none 0 0)).set 1 (.bool true)
  refine bodyPost_ret (v := .slice R.l.p R.l.n R.l.c) (by simp [results, Try.results55, go_sem]) rfl ⟨rfl, ⟨⟨?_, World.ownsRow_nil _ _ _ _, (fun e => by cases e), HI.out.r0, HI.out.r1, Nat.zero_le _, fun j hj => absurd hj (Nat.not_lt_zero j), fun k hk => HI.out.cz k (hk.elim .inl (fun e => by cases e)), fun _ => rfl⟩, ?_, fun k hk => .inl (hk.elim .inl (fun e => by cases e)), rfl⟩, ?_⟩
  · simpa only [List.setIfInBounds_toArray, List.set_cons_zero, List.set_cons_succ] using h5
  · exact ⟨hs.os, hs.tape, hs.output, hs.size, fun k hk hn => hs.block k hk fun e => hn (.inl e)⟩
  · exact HI.out.in_.kept hs.size fun k hk hl => hs.block k hl hk.1
set_option maxHeartbeats 2000000 in
/-- held -/
theorem rheld (w : World) (Z : Nat → Prop) (b : Nat) (R : Rf) (h : RfI w Z b R) : Calls Try.prog 71 #[.pointer (some ⟨b, 0, none⟩)] w fun e w' => e = .returned (.int .i64 (nR R.l.toL : Int)) ∧ w' = w := by
  have c2 := h.c2
  have bl := h.box.lt
  have hlen := h.len
  have HI := hid h
  clear h
  go_enter Try.func71, Try.ntmps71
  go_wp2_with fail
  go_loopw [3, 4] (fun n x wr => ∃ j : Nat, j ≤ R.l.n ∧ x = .int .i64 (j : Int) ∧ n = .int .i64 (nR (R.l.toL.take j) : Int) ∧ wr = w) (fun _ x _ => R.l.n - (intOf x).toNat)
  case atStart => exact ⟨0, Nat.zero_le _, rfl, rfl, rfl⟩
  case round =>
    obtain ⟨j, hj, rfl, rfl, hw⟩ := hrel
    subst wr
    by_cases hlt : j < R.l.n
    · have hlt' : (j : Int) < (R.l.n : Int) := by omega
      obtain ⟨bb, o, hp, hSb, hbb, hat⟩ := HI.out.in_.at_ (by omega)
      have c0 : w.cell? ⟨bb, o + j * 7, none⟩ = some (.int .i64 (R.l.item j).mark) := hat j hlt 0 _ rfl
      rw [hp] at c2
      have hg := LT.toL_get R.l hlt
      have htk : R.l.toL.take (j + 1) = R.l.toL.take j ++ [R.l.item j] := by rw [List.take_add_one, hg]; rfl
      have hb1 : nR (R.l.toL.take j) ≤ 30000 := by have := nR_le (R.l.toL.take j); have h2 : (R.l.toL.take j).length ≤ j := List.length_take_le _ _; omega
      clear hat hSb hg
      by_cases hm : (R.l.item j).mark = 0
      · have hm' : ((R.l.item j).mark == 0) = true := by simp [hm]
        have HE : Hid ((nR (R.l.toL.take (j + 1)) : Int) = (nR (R.l.toL.take j) : Int) + 1) := by
          rw [htk, nR_append, nR_cons0 [] hm]
          show ((_ : Nat) : Int) = _
          simp [nR]
        clear htk hp
        go_wp2
        go_roundw
        case rel => exact ⟨j + 1, by omega, by go_num, by rw [HE.out], trivial⟩
        case measure => simp [intOf]; omega
      · have hm' : ((R.l.item j).mark == 0) = false := by simp [hm]
        have HE : Hid ((nR (R.l.toL.take (j + 1)) : Int) = (nR (R.l.toL.take j) : Int)) := by
          rw [htk, nR_append, nR_cons1 [] hm]
          show ((_ : Nat) : Int) = _
          simp [nR]
        clear htk hp
        go_wp2
        go_roundw
        case rel => exact ⟨j + 1, by omega, by go_num, by rw [HE.out], trivial⟩
        case measure => simp [intOf]; omega
    · obtain rfl : j = R.l.n := by omega
      have HE : Hid (nR (R.l.toL.take R.l.n) = nR R.l.toL) := by
        show nR _ = _
        rw [List.take_of_length_le (by rw [LT.toL_len]; exact Nat.le_refl _)]
      go_wp2
      refine bodyPost_ret (v := .int .i64 (nR (R.l.toL.take R.l.n) : Int)) (by simp [results, Try.results71, go_sem]) rfl ⟨by rw [HE.out], rfl⟩
end Go.Proofs.Ytpldokahoamdpaa
