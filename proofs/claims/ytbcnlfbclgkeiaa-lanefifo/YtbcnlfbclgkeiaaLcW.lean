import Derived.Test.YtbcnlfbclgkeiaaLcU
namespace Go.Proofs.Ytbcnlfbclgkeiaa
open Go.RowKit Go.Conc
set_option maxRecDepth 8000
def rowsE {α : Type} (E : El α) (l : LT α) : List Value := (List.range l.n).flatMap fun j => E.cells (l.item j)
def LT.push {α : Type} (l : LT α) (p : Option Addr) (c : Nat) (u : α) : LT α := ⟨p, l.n + 1, c, fun j => if j < l.n then l.item j else u⟩
theorem rowsE_push {α : Type} (E : El α) (l : LT α) (p : Option Addr) (c : Nat) (u : α) : rowsE E (l.push p c u) = rowsE E l ++ E.cells u := by
  unfold rowsE LT.push
  rw [List.range_succ, List.flatMap_append]
  congr 1
  · rw [List.flatMap_def, List.flatMap_def]
    congr 1
    apply List.map_congr_left
    intro j hj
    show E.cells (if j < l.n then l.item j else u) = _
    rw [if_pos (List.mem_range.1 hj)]
  · simp
theorem LT.push_toL {α : Type} (l : LT α) (p : Option Addr) (c : Nat) (u : α) : (l.push p c u).toL = l.toL ++ [u] := by
  unfold LT.toL LT.push
  rw [List.range_succ, List.map_append]
  congr 1
  · apply List.map_congr_left
    intro j hj
    show (if j < l.n then l.item j else u) = _
    rw [if_pos (List.mem_range.1 hj)]
  · simp
theorem own_list {α : Type} {E : El α} {base : Nat} {w : World} {S : Nat → Prop} {l : LT α} (h : w.ownsRow base E.ty E.size (.slice l.p l.n l.c) l.n (rowsE E l)) (he : ∀ j, j < l.n → E.In w S (l.item j)) (hS : ∀ b, base ≤ b → S b) (hn : l.n ≤ 140737488355328) : LT.In E w S l := by
  have hlt := h.lt
  have hce := @World.ownsRow.cells _ _ _ _ _ _ _ h
  obtain ⟨_, ⟨hv, h0⟩ | ⟨gb, cap, cur, hv, hbg, hh, hnc, hcm, hcs, htake⟩⟩ := id h
  · injection hv with hp _ hc
    refine ⟨fun h => absurd h (by omega), he, by omega, hn, by rw [hc]; exact Nat.zero_le _, fun _ => ⟨h0, hc⟩⟩
  · injection hv with hp _ hc
    refine ⟨fun hn => ⟨gb, 0, hp, hS gb hbg, (hlt gb (by rw [hp]; rfl)).2, fun j hj r u hu => ?_⟩, he, by omega, hn, by omega, fun e => by rw [hp] at e; cases e⟩
    have hr : r < E.size := by
      rcases Nat.lt_or_ge r E.size with h1 | h1
      · exact h1
      · rw [List.getElem?_eq_none (by rw [E.len]; exact h1)] at hu; cases hu
    have := hce (g := gb) (by rw [hp]; rfl) (j * E.size + r) u (by unfold rowsE; rw [range_flat_get E l.item l.n j r hj hr]; exact hu)
    rw [Go.WideShapes.add_plain] at this
    rw [show (0 : Nat) + j * E.size + r = 0 + (j * E.size + r) by omega]
    exact this
/-- the law's book -/
structure Bb where
  R : LT RT
  M : LT Int
  oR : Nat
  oM : Nat
def Bb.C (X : Bb) (k j : Nat) : Prop := j = k ∨ (Value.slice X.R.p X.R.n X.R.c).ownBlock = some j ∨ (Value.slice X.M.p X.M.n X.M.c).ownBlock = some j
structure BbI (B0 : Nat) (w : World) (k : Nat) (X : Bb) : Prop where
  box : Box w k #[.slice X.R.p X.R.n X.R.c, .slice X.M.p X.M.n X.M.c, .int .i64 (X.oR : Int), .int .i64 (X.oM : Int)] 57
  o1 : w.ownsRow B0 33 6 (.slice X.R.p X.R.n X.R.c) X.R.n (rowsE elRec X.R)
  o2 : w.ownsRow B0 3 1 (.slice X.M.p X.M.n X.M.c) X.M.n (rowsE elInt X.M)
  kb : B0 ≤ k
  d1 : (Value.slice X.R.p X.R.n X.R.c).ownBlock ≠ some k
  d2 : (Value.slice X.M.p X.M.n X.M.c).ownBlock ≠ some k
  d3 : ∀ g, (Value.slice X.R.p X.R.n X.R.c).ownBlock = some g → (Value.slice X.M.p X.M.n X.M.c).ownBlock ≠ some g
  el : ∀ j, j < X.R.n → RT.In w (fun b => b < B0) (X.R.item j)
  mi : ∀ j, j < X.M.n → elInt.In w (fun _ => True) (X.M.item j)
  rn : X.R.n ≤ 10000
  mn : X.M.n ≤ 10000
  b1 : X.oR ≤ X.R.n
  b2 : X.oM ≤ X.M.n
section
variable {B0 : Nat} {w w' : World} {k : Nat} {X X' : Bb}
theorem BbI.c_lt (h : BbI B0 w k X) {j : Nat} (hj : X.C k j) : B0 ≤ j ∧ j < w.heap.size := by
  rcases hj with rfl | e | e
  · exact ⟨h.kb, h.box.lt⟩
  · exact h.o1.lt j e
  · exact h.o2.lt j e
theorem BbI.but {Y : Nat → Prop} (h : BbI B0 w k X) (hb : But Y w w') (hy : ∀ j, j < w.heap.size → Y j → ¬ X.C k j ∧ B0 ≤ j) : BbI B0 w' k X := by
  have hk : ∀ j, j < w.heap.size → X.C k j → w'.heap[j]? = w.heap[j]? := fun j hl hc => hb.block j hl fun e => (hy j hl e).1 hc
  refine ⟨h.box.kept (hk k h.box.lt (.inl rfl)), ownsRow_keep h.o1 fun g hg hl => hk g hl (.inr (.inl hg)), ownsRow_keep h.o2 fun g hg hl => hk g hl (.inr (.inr hg)), h.kb, h.d1, h.d2, h.d3, fun j hj => (h.el j hj).kept hb.size fun g hg hl => hb.block g hl fun e => ?_, h.mi, h.rn, h.mn, h.b1, h.b2⟩
  have := (hy g hl e).2
  omega
theorem BbI.below (h : BbI B0 w k X) (hb : Below w.heap.size w w') : BbI B0 w' k X := h.but (Y := fun _ => False) (But.ofBelow hb) fun _ _ e => e.elim
theorem BbI.inM (h : BbI B0 w k X) : LT.In elInt w (fun _ => True) X.M := own_list (E := elInt) h.o2 h.mi (fun _ _ => trivial) (by have := h.mn; omega)
theorem BbI.inR (h : BbI B0 w k X) : LT.In elRec w (fun _ => True) X.R := own_list (E := elRec) h.o1 (fun j hj => (h.el j hj).mono fun _ _ _ => trivial) (fun _ _ => trivial) (by have := h.rn; omega)
end
structure BSet (B0 : Nat) (w : World) (k : Nat) (X : Bb) (w' : World) (X' : Bb) : Prop where
  bk : BbI B0 w' k X'
  but : But (X.C k) w w'
  c : ∀ j, X'.C k j → X.C k j ∨ w.heap.size ≤ j
theorem BSet.refl {B0 : Nat} {w : World} {k : Nat} {X : Bb} (h : BbI B0 w k X) : BSet B0 w k X w X := ⟨h, But.refl _ _, fun _ hj => .inl hj⟩
theorem BSet.below {B0 : Nat} {w w' : World} {k : Nat} {X : Bb} (h : BbI B0 w k X) (hb : Below w.heap.size w w') : BSet B0 w k X w' X := ⟨h.below hb, But.ofBelow hb, fun _ hj => .inl hj⟩
theorem BSet.trans {B0 : Nat} {w w1 w2 : World} {k : Nat} {X X1 X2 : Bb} (h : BSet B0 w k X w1 X1) (g : BSet B0 w1 k X1 w2 X2) : BSet B0 w k X w2 X2 := by
  refine ⟨g.bk, ⟨g.but.os.trans h.but.os, g.but.tape.trans h.but.tape, g.but.output.trans h.but.output, Nat.le_trans h.but.size g.but.size, fun j hj hn => ?_⟩, fun j hj => ?_⟩
  · refine (g.but.block j (Nat.lt_of_lt_of_le hj h.but.size) fun hc => ?_).trans (h.but.block j hj hn)
    rcases h.c j hc with e | e
    · exact hn e
    · omega
  · rcases g.c j hj with h1 | h1
    · exact h.c j h1
    · exact .inr (Nat.le_trans h.but.size h1)
/-- the lane beside a book that changes -/
theorem LnI.book {B0 : Nat} {w w' : World} {k b : Nat} {X X' : Bb} {L : Ln} (h : LnI w (X.C k) b L) (g : BSet B0 w k X w' X') : LnI w' (X'.C k) b L := by
  have h1 : LnI w (fun j => X.C k j ∨ X'.C k j) b L := h.z fun j hj hz => by
    rcases hz with e | e
    · exact e
    · rcases g.c j e with e2 | e2
      · exact e2
      · omega
  exact (h1.but g.but fun j _ e => .inl e).z fun j _ e => .inr e
/-- the book beside a lane that changes -/
theorem BbI.lane {B0 : Nat} {w w' : World} {k b : Nat} {X : Bb} {L L' : Ln} (h : BbI B0 w k X) (hl : LnI w (X.C k) b L) (hc : ∀ j, L.C b j → B0 ≤ j) (g : LSet w (X.C k) b L w' L') : BbI B0 w' k X :=
  h.but g.but fun j _ e => ⟨hl.cz j e, hc j e⟩
set_option maxHeartbeats 2000000 in
/-- held -/
theorem held_any (B0 : Nat) (w : World) (k : Nat) (X : Bb) (h : BbI B0 w k X) : Calls Try.prog 40 #[.pointer (some ⟨k, 0, none⟩)] w fun e w' => e = .returned (.int .i64 ((X.R.n - X.oR : Nat) : Int)) ∧ Below w.heap.size w w' := by
  have c0 : w.cell? ⟨k, 0, none⟩ = some (.slice X.R.p X.R.n X.R.c) := by rw [h.box.cell]; rfl
  have c2 : w.cell? ⟨k, 2, none⟩ = some (.int .i64 (X.oR : Int)) := by rw [h.box.cell]; rfl
  have bl := h.box.lt
  have h1 := h.b1
  have h2 := h.rn
  have HE : Hid (((X.R.n - X.oR : Nat) : Int) = (X.R.n : Int) - (X.oR : Int)) := by show _ = _; omega
  have hw : IntKind.i64.wrap ((X.R.n : Int) - (X.oR : Int)) = (X.R.n : Int) - (X.oR : Int) := by rw [IntKind.wrap_i64]; omega
  clear h
  go_enter Try.func40, Try.ntmps40
  go_wp2_with fail
  refine wp_region_calmD 30 (fun wx => Below w.heap.size w wx) [(0, true), (1, true), (2, true), (3, false), (4, true), (5, true), (6, true), (7, true), (8, false), (9, true), (10, true)] [] (by kernel_rfl) (by kernel_rfl) (Below.refl _ _).drew ?_
  refine wpPre_e rfl rfl (fun K1 hK1 => ?_)
  apply Exists.intro
  refine And.intro (fun wx hx => ?_) ?_
  · go_simp
    try rfl
  go_simp
  refine hK1 _ ?_
  clear hK1 K1
  refine wpPre_e rfl rfl (fun K1 hK1 => ?_)
  apply Exists.intro
  refine And.intro (fun wx hx => ?_) ?_
  · go_simp
    try rfl
  go_simp
  refine hK1 _ ?_
  clear hK1 K1
  refine wpPre_e rfl rfl (fun K1 hK1 => ?_)
  apply Exists.intro
  refine And.intro (fun wx hx => ?_) ?_
  · go_simp
    try rfl
  go_simp
  refine hK1 _ ?_
  clear hK1 K1
  refine wpPre_e rfl rfl (fun K1 hK1 => ?_)
  apply Exists.intro
  refine And.intro (fun wx hx => ?_) ?_
  · have e0 := below_fact hx rfl c0
    have e1 := below_fact hx rfl c2
    go_simp
    try rfl
  go_simp
  refine hK1 _ ?_
  clear hK1 K1
  refine wpPre_e rfl rfl (fun K1 hK1 => ?_)
  apply Exists.intro
  refine And.intro (fun wx hx => ?_) ?_
  · go_simp
    try rfl
  go_simp
  refine hK1 _ ?_
  clear hK1 K1
  refine wpPre_e rfl rfl (fun K1 hK1 => ?_)
  apply Exists.intro
  refine And.intro (fun wx hx => ?_) ?_
  · go_simp
    try rfl
  go_simp
  refine hK1 _ ?_
  clear hK1 K1
  refine wpPre_e rfl rfl (fun K1 hK1 => ?_)
  apply Exists.intro
  refine And.intro (fun wx hx => ?_) ?_
  · go_simp
    try rfl
  go_simp
  refine hK1 _ ?_
  clear hK1 K1
  refine wpPre_e rfl rfl (fun K1 hK1 => ?_)
  apply Exists.intro
  refine And.intro (fun wx hx => ?_) ?_
  · go_simp
    try rfl
  go_simp
  refine hK1 _ ?_
  clear hK1 K1
  refine wpPre_e rfl rfl (fun K1 hK1 => ?_)
  apply Exists.intro
  refine And.intro (fun wx hx => ?_) ?_
  · have e0 := below_fact hx rfl c0
    have e1 := below_fact hx rfl c2
    go_simp
    try rfl
  go_simp
  refine hK1 _ ?_
  clear hK1 K1
  refine wpPre_e rfl rfl (fun K1 hK1 => ?_)
  apply Exists.intro
  refine And.intro (fun wx hx => ?_) ?_
  · go_simp
    try rfl
  go_simp
  refine hK1 _ ?_
  clear hK1 K1
  refine wpPre_e rfl rfl (fun K1 hK1 => ?_)
  apply Exists.intro
  refine And.intro (fun wx hx => ?_) ?_
  · go_simp
    try rfl
  go_simp
  refine hK1 _ ?_
  clear hK1 K1
  refine wpPre_nil ?_
  refine wpStg_nil ?_
  clear hw
  go_wp2
  refine bodyPost_ret (v := .int .i64 ((X.R.n : Int) - (X.oR : Int))) (by simp [results, Try.results40, go_sem]) rfl ⟨by rw [HE.out], (Below.refl _ _).drew⟩
structure InQ (B0 : Nat) (w : World) (k : Nat) (X : Bb) (x : IT) (X' : Bb) (w' : World) : Prop where
  set : BSet B0 w k X w' X'
  r : X'.R.toL = X.R.toL ++ (if 0 < x.mark then [] else [x.r])
  m : X'.M.toL = X.M.toL ++ (if 0 < x.mark then [x.mark] else [])
  oR : X'.oR = X.oR
  oM : X'.oM = X.oM
theorem own_near {w : World} {v v6 : Value} {g : Nat} (hn6 : Near w v v6) (hg : v6.ownBlock = some g) : v.ownBlock = some g ∨ w.heap.size ≤ g := by
  rcases hn6 with e | e
  · exact .inl (e ▸ hg)
  · exact .inr (e g hg)
set_option maxRecDepth 60000 in
set_option maxHeartbeats 8000000 in
/-- in -/
theorem in_any (B0 : Nat) (w : World) (k : Nat) (X : Bb) (h : BbI B0 w k X) (x : IT) (hx : IT.In w (fun b => b < B0) x) (hR : X.R.n < 10000) (hM : X.M.n < 10000) : Calls Try.prog 60 #[.pointer (some ⟨k, 0, none⟩), .agg #[.int .i64 x.mark, .string x.r.key, .int .i64 x.r.v.kind, .int .i64 x.r.v.int, .string x.r.v.text, .slice x.r.v.p x.r.v.n x.r.v.c, .slice x.r.p x.r.n x.r.c]] w fun e w' => e = .returned (.tuple #[]) ∧ ∃ X', InQ B0 w k X x X' w' := by
  obtain ⟨W, hW⟩ : ∃ W, W = w.alloc (.cells #[.int .i64 x.mark, .string x.r.key, .int .i64 x.r.v.kind, .int .i64 x.r.v.int, .string x.r.v.text, .slice x.r.v.p x.r.v.n x.r.v.c, .slice x.r.p x.r.n x.r.c] 35) := ⟨_, rfl⟩
  have hB : Below w.heap.size w W := by rw [hW]; exact (Below.refl _ _).alloc (Nat.le_refl _) _
  have hXb : Box W w.heap.size #[.int .i64 x.mark, .string x.r.key, .int .i64 x.r.v.kind, .int .i64 x.r.v.int, .string x.r.v.text, .slice x.r.v.p x.r.v.n x.r.v.c, .slice x.r.p x.r.n x.r.c] 35 := by rw [hW]; exact Box.new _ _ _
  have hI := h.below hB
  have HI := hid hI
  have H0 := hid h
  have HB := hid hB
  have HW := hid hW
  have HX := hid (hx.below hB)
  have c0 : W.cell? ⟨k, 0, none⟩ = some (.slice X.R.p X.R.n X.R.c) := by rw [hI.box.cell]; rfl
  have c1 : W.cell? ⟨k, 1, none⟩ = some (.slice X.M.p X.M.n X.M.c) := by rw [hI.box.cell]; rfl
  have bl := hI.box.lt
  have hkl := h.box.lt
  have z0 := hXb.cell 0
  have z1 := hXb.cell 1
  have z2 := hXb.cell 2
  have z3 := hXb.cell 3
  have z4 := hXb.cell 4
  have z5 := hXb.cell 5
  have z6 := hXb.cell 6
  simp at z0 z1 z2 z3 z4 z5 z6
  have zl := hXb.lt
  obtain ⟨i0, Kd⟩ := kindIc
  obtain ⟨i1, Kr⟩ := kindRs
  have HKd := hid Kd
  have HKr := hid Kr
  have hB0 : B0 ≤ w.heap.size := Nat.le_of_lt (Nat.lt_of_le_of_lt h.kb hkl)
  clear h hB hXb hI hW hx Kd Kr
  by_cases hm : 0 < x.mark
  · go_enter Try.func60, Try.ntmps60
    go_upto_region 1 with fail
    rw [← HW.out]
    go_upto_region 2 with fail
    refine wp_region_calmE 30 (fun wx => Below W.heap.size W wx) [(0, true), (1, true), (2, true), (3, true), (4, false), (5, true), (6, false)] (.one 7 true [] (.one 8 false [(9, true), (10, true)] (.one 11 false [] .done))) (by kernel_rfl) (by kernel_rfl) (Below.refl _ _).drew ?_
    refine wpPre_e rfl rfl (fun K1 hK1 => ?_)
    apply Exists.intro
    refine And.intro (fun wx hx => ?_) ?_
    · go_simp
      try rfl
    go_simp
    refine hK1 _ ?_
    clear hK1 K1
    refine wpPre_e rfl rfl (fun K1 hK1 => ?_)
    apply Exists.intro
    refine And.intro (fun wx hx => ?_) ?_
    · go_simp
      try rfl
    go_simp
    refine hK1 _ ?_
    clear hK1 K1
    refine wpPre_e rfl rfl (fun K1 hK1 => ?_)
    apply Exists.intro
    refine And.intro (fun wx hx => ?_) ?_
    · go_simp
      try rfl
    go_simp
    refine hK1 _ ?_
    clear hK1 K1
    refine wpPre_e rfl rfl (fun K1 hK1 => ?_)
    apply Exists.intro
    refine And.intro (fun wx hx => ?_) ?_
    · go_simp
      try rfl
    go_simp
    refine hK1 _ ?_
    clear hK1 K1
    refine wpPre_e rfl rfl (fun K1 hK1 => ?_)
    apply Exists.intro
    refine And.intro (fun wx hx => ?_) ?_
    · have e0 := below_fact hx rfl c0
      have e1 := below_fact hx rfl c1
      have e2 := below_fact hx rfl z0
      have e3 := below_fact hx rfl z1
      have e4 := below_fact hx rfl z2
      have e5 := below_fact hx rfl z3
      have e6 := below_fact hx rfl z4
      have e7 := below_fact hx rfl z5
      have e8 := below_fact hx rfl z6
      go_simp
      try rfl
    go_simp
    refine hK1 _ ?_
    clear hK1 K1
    refine wpPre_e rfl rfl (fun K1 hK1 => ?_)
    apply Exists.intro
    refine And.intro (fun wx hx => ?_) ?_
    · go_simp
      try rfl
    go_simp
    refine hK1 _ ?_
    clear hK1 K1
    refine wpPre_e rfl rfl (fun K1 hK1 => ?_)
    apply Exists.intro
    refine And.intro (fun wx hx => ?_) ?_
    · have e0 := below_fact hx rfl c0
      have e1 := below_fact hx rfl c1
      have e2 := below_fact hx rfl z0
      have e3 := below_fact hx rfl z1
      have e4 := below_fact hx rfl z2
      have e5 := below_fact hx rfl z3
      have e6 := below_fact hx rfl z4
      have e7 := below_fact hx rfl z5
      have e8 := below_fact hx rfl z6
      go_simp
      try rfl
    go_simp
    refine hK1 _ ?_
    clear hK1 K1
    refine wpPre_nil ?_
    refine wpTr_e rfl (fun K1 hK1 => ?_)
    go_simp
    have hb5 : Below W.heap.size W (W.alloc (.cells #[.int .i64 x.mark] 3)).drew := ((Below.refl W.heap.size W).alloc (Nat.le_refl _) _).drew
    refine hK1 _ _ (fun _ => hb5) ?_
    clear hK1 K1
    refine wpPre_nil ?_
    refine wpTr_e rfl (fun K1 hK1 => ?_)
    have hI5 := HI.out.below hb5
    have hnews : ∀ j u', (elInt.cells x.mark)[j]? = some u' → ((W.alloc (.cells #[.int .i64 x.mark] 3)).drew).cell? ((⟨W.heap.size, 0, none⟩ : Addr).add j) = some u' := fun j u' hu => by
      show (W.alloc (.cells #[.int .i64 x.mark] 3)).cell? _ = _
      rw [Go.WideShapes.add_plain, (Box.new W #[.int .i64 x.mark] 3).cell]
      rw [show 0 + j = j by omega]
      simpa [elInt] using hu
    have HX5 := hid (And.intro hI5 (And.intro hb5 hnews))
    clear hI5 hnews hb5
    refine step_app rfl (.tmp 11) (.tmp 14) 31 3 i0 _ 1 8 HKd.out rfl B0 (.slice X.M.p X.M.n X.M.c) X.M.n (rowsE elInt X.M) rfl HX5.out.1.o2 ⟨W.heap.size, 0, none⟩ 1 1 (elInt.cells x.mark) rfl rfl HX5.out.2.2 (elInt.one _) (by omega) (by omega) (by have := HX5.out.2.1.size; have := HB.out.size; omega) ?_
    intro v6 w6 ho6 hg6 hn6
    obtain ⟨p6, c6, rfl⟩ := ownsRow_slice ho6
    have hbt6 : But (fun j => (Value.slice X.M.p X.M.n X.M.c).ownBlock = some j) W w6 := (But.ofBelow HX5.out.2.1).trans ((But.refl _ _).grown hg6 fun j hj _ => hj)
    have hb6 := HI.out.box.but hbt6 HI.out.d2
    have y1 : w6.cell? ⟨k, 1, none⟩ = some (.slice X.M.p X.M.n X.M.c) := by rw [hb6.cell]; rfl
    have g1 := hb6.frozen 1
    have hlt6 := hb6.lt
    rw [← rowsE_push elInt X.M p6 c6 x.mark] at ho6
    have HS6 : Hid (InQ B0 w k X x ⟨X.R, X.M.push p6 c6 x.mark, X.oR, X.oM⟩ (w6.setCell ⟨k, 1, none⟩ (.slice p6 (X.M.n + 1) c6))) := by
      have hs := (But.one w6 k).setAt 1 (.slice p6 (X.M.n + 1) c6)
      have hnear : ∀ g, (Value.slice p6 (X.M.n + 1) c6).ownBlock = some g → (Value.slice X.M.p X.M.n X.M.c).ownBlock = some g ∨ W.heap.size ≤ g := fun g hg => by
        rcases own_near hn6 hg with e | e
        · exact .inl e
        · exact .inr (by have := HX5.out.2.1.size; omega)
      have hkk : ∀ g, (Value.slice p6 (X.M.n + 1) c6).ownBlock = some g → g ≠ k := fun g hg e => by
        rcases hnear g hg with e2 | e2
        · exact HI.out.d2 (e ▸ e2)
        · omega
      have hbtw : But (X.C k) w (w6.setCell ⟨k, 1, none⟩ (.slice p6 (X.M.n + 1) c6)) := by
        refine ⟨hs.os.trans (hbt6.os.trans HB.out.os), hs.tape.trans (hbt6.tape.trans HB.out.tape), hs.output.trans (hbt6.output.trans HB.out.output), by have := hs.size; have := hbt6.size; have := HB.out.size; omega, fun j hj hn => ?_⟩
        exact (hs.block j (by have := hbt6.size; have := HB.out.size; omega) fun e => hn (.inl e)).trans ((hbt6.block j (by have := HB.out.size; omega) fun e => hn (.inr (.inr e))).trans (HB.out.block j hj))
      refine ⟨⟨⟨?_, ?_, ?_, HI.out.kb, HI.out.d1, fun e => hkk k e rfl, fun g hg e => ?_, fun j hj => (H0.out.el j hj).kept hbtw.size fun g hg hl => hbtw.block g hl fun e => by have := (H0.out.c_lt e).1; omega, fun j hj => ?_, HI.out.rn, by show X.M.n + 1 ≤ 10000; omega, HI.out.b1, by show X.oM ≤ X.M.n + 1; have := HI.out.b2; omega⟩, hbtw, fun j hj => ?_⟩, by rw [if_pos hm]; simp, by rw [if_pos hm]; exact LT.push_toL _ _ _ _, rfl, rfl⟩
      · have h5 := hb6.set 1 (.slice p6 (X.M.n + 1) c6)
        show Box _ k #[.slice X.R.p X.R.n X.R.c, .slice p6 (X.M.n + 1) c6, .int .i64 (X.oR : Int), .int .i64 (X.oM : Int)] 57
        simpa only [List.setIfInBounds_toArray, List.set_cons_zero, List.set_cons_succ] using h5
      · exact ownsRow_keep (ownsRow_keep HI.out.o1 fun g hg hl => hbt6.block g hl fun e => HI.out.d3 g hg e) fun g hg hl => hs.block g hl fun e => HI.out.d1 (e ▸ hg)
      · exact ownsRow_keep ho6 fun g hg hl => hs.block g hl (hkk g hg)
      · rcases hnear g e with e2 | e2
        · exact HI.out.d3 g hg e2
        · have := (HI.out.o1.lt g hg).2; omega
      · show elInt.In _ _ (if j < X.M.n then X.M.item j else x.mark)
        by_cases hjm : j < X.M.n
        · rw [if_pos hjm]; exact HI.out.mi j hjm
        · rw [if_neg hjm]; exact ⟨HX.out.m0, HX.out.m1⟩
      · rcases hj with e | e | e
        · exact .inl (.inl e)
        · exact .inl (.inr (.inl e))
        · rcases hnear j e with e2 | e2
          · exact .inl (.inr (.inr e2))
          · exact .inr (by have := HB.out.size; omega)
    clear ho6 hg6 hn6 hb6 HX5 hbt6
    go_simp
    refine hK1 _ _ (fun h => by cases h) ?_
    clear hK1 K1
    refine wpPre_e rfl rfl (fun K1 hK1 => ?_)
    apply Exists.intro
    refine And.intro (fun wx hx => ?_) ?_
    · go_simp
      try rfl
    go_simp
    refine hK1 _ ?_
    clear hK1 K1
    refine wpPre_e rfl rfl (fun K1 hK1 => ?_)
    apply Exists.intro
    refine And.intro (fun wx hx => ?_) ?_
    · go_simp
      try rfl
    go_simp
    refine hK1 _ ?_
    clear hK1 K1
    refine wpPre_nil ?_
    refine wpTr_e rfl (fun K1 hK1 => ?_)
    go_simp
    refine hK1 _ _ (fun h => by cases h) ?_
    clear hK1 K1
    refine wpPre_nil ?_
    refine wpTr_done ?_
    go_wp2
    go_end0
    exact ⟨rfl, _, HS6.out⟩
  · go_enter Try.func60, Try.ntmps60
    go_upto_region 1 with fail
    rw [← HW.out]
    go_upto_region 3 with fail
    refine wp_region_calmE 30 (fun wx => Below W.heap.size W wx) [(0, true), (1, true), (2, true), (3, true), (4, false), (5, true), (6, false)] (.one 7 true [] (.one 8 false [(9, true), (10, true)] (.one 11 false [] .done))) (by kernel_rfl) (by kernel_rfl) (Below.refl _ _).drew ?_
    refine wpPre_e rfl rfl (fun K1 hK1 => ?_)
    apply Exists.intro
    refine And.intro (fun wx hx => ?_) ?_
    · go_simp
      try rfl
    go_simp
    refine hK1 _ ?_
    clear hK1 K1
    refine wpPre_e rfl rfl (fun K1 hK1 => ?_)
    apply Exists.intro
    refine And.intro (fun wx hx => ?_) ?_
    · go_simp
      try rfl
    go_simp
    refine hK1 _ ?_
    clear hK1 K1
    refine wpPre_e rfl rfl (fun K1 hK1 => ?_)
    apply Exists.intro
    refine And.intro (fun wx hx => ?_) ?_
    · go_simp
      try rfl
    go_simp
    refine hK1 _ ?_
    clear hK1 K1
    refine wpPre_e rfl rfl (fun K1 hK1 => ?_)
    apply Exists.intro
    refine And.intro (fun wx hx => ?_) ?_
    · go_simp
      try rfl
    go_simp
    refine hK1 _ ?_
    clear hK1 K1
    refine wpPre_e rfl rfl (fun K1 hK1 => ?_)
    apply Exists.intro
    refine And.intro (fun wx hx => ?_) ?_
    · have e0 := below_fact hx rfl c0
      have e1 := below_fact hx rfl c1
      have e2 := below_fact hx rfl z0
      have e3 := below_fact hx rfl z1
      have e4 := below_fact hx rfl z2
      have e5 := below_fact hx rfl z3
      have e6 := below_fact hx rfl z4
      have e7 := below_fact hx rfl z5
      have e8 := below_fact hx rfl z6
      go_simp
      try rfl
    go_simp
    refine hK1 _ ?_
    clear hK1 K1
    refine wpPre_e rfl rfl (fun K1 hK1 => ?_)
    apply Exists.intro
    refine And.intro (fun wx hx => ?_) ?_
    · go_simp
      try rfl
    go_simp
    refine hK1 _ ?_
    clear hK1 K1
    refine wpPre_e rfl rfl (fun K1 hK1 => ?_)
    apply Exists.intro
    refine And.intro (fun wx hx => ?_) ?_
    · have e0 := below_fact hx rfl c0
      have e1 := below_fact hx rfl c1
      have e2 := below_fact hx rfl z0
      have e3 := below_fact hx rfl z1
      have e4 := below_fact hx rfl z2
      have e5 := below_fact hx rfl z3
      have e6 := below_fact hx rfl z4
      have e7 := below_fact hx rfl z5
      have e8 := below_fact hx rfl z6
      go_simp
      try rfl
    go_simp
    refine hK1 _ ?_
    clear hK1 K1
    refine wpPre_nil ?_
    refine wpTr_e rfl (fun K1 hK1 => ?_)
    go_simp
    have hb5 : Below W.heap.size W (W.alloc (.cells #[.string x.r.key, .int .i64 x.r.v.kind, .int .i64 x.r.v.int, .string x.r.v.text, .slice x.r.v.p x.r.v.n x.r.v.c, .slice x.r.p x.r.n x.r.c] 33)).drew := ((Below.refl W.heap.size W).alloc (Nat.le_refl _) _).drew
    refine hK1 _ _ (fun _ => hb5) ?_
    clear hK1 K1
    refine wpPre_nil ?_
    refine wpTr_e rfl (fun K1 hK1 => ?_)
    have hI5 := HI.out.below hb5
    have hnews : ∀ j u', (elRec.cells x.r)[j]? = some u' → ((W.alloc (.cells #[.string x.r.key, .int .i64 x.r.v.kind, .int .i64 x.r.v.int, .string x.r.v.text, .slice x.r.v.p x.r.v.n x.r.v.c, .slice x.r.p x.r.n x.r.c] 33)).drew).cell? ((⟨W.heap.size, 0, none⟩ : Addr).add j) = some u' := fun j u' hu => by
      show (W.alloc (.cells #[.string x.r.key, .int .i64 x.r.v.kind, .int .i64 x.r.v.int, .string x.r.v.text, .slice x.r.v.p x.r.v.n x.r.v.c, .slice x.r.p x.r.n x.r.c] 33)).cell? _ = _
      rw [Go.WideShapes.add_plain, (Box.new W #[.string x.r.key, .int .i64 x.r.v.kind, .int .i64 x.r.v.int, .string x.r.v.text, .slice x.r.v.p x.r.v.n x.r.v.c, .slice x.r.p x.r.n x.r.c] 33).cell]
      rw [show 0 + j = j by omega]
      simpa [elRec, RT.cells] using hu
    have HX5 := hid (And.intro hI5 (And.intro hb5 hnews))
    clear hI5 hnews hb5
    refine step_app rfl (.tmp 22) (.tmp 25) 38 33 i1 _ 6 96 HKr.out rfl B0 (.slice X.R.p X.R.n X.R.c) X.R.n (rowsE elRec X.R) rfl HX5.out.1.o1 ⟨W.heap.size, 0, none⟩ 1 1 (elRec.cells x.r) rfl rfl HX5.out.2.2 (elRec.one _) (by omega) (by omega) (by have := HX5.out.2.1.size; have := HB.out.size; omega) ?_
    intro v6 w6 ho6 hg6 hn6
    obtain ⟨p6, c6, rfl⟩ := ownsRow_slice ho6
    have hbt6 : But (fun j => (Value.slice X.R.p X.R.n X.R.c).ownBlock = some j) W w6 := (But.ofBelow HX5.out.2.1).trans ((But.refl _ _).grown hg6 fun j hj _ => hj)
    have hb6 := HI.out.box.but hbt6 HI.out.d1
    have y1 : w6.cell? ⟨k, 0, none⟩ = some (.slice X.R.p X.R.n X.R.c) := by rw [hb6.cell]; rfl
    have g1 := hb6.frozen 0
    have hlt6 := hb6.lt
    rw [← rowsE_push elRec X.R p6 c6 x.r] at ho6
    have HS6 : Hid (InQ B0 w k X x ⟨X.R.push p6 c6 x.r, X.M, X.oR, X.oM⟩ (w6.setCell ⟨k, 0, none⟩ (.slice p6 (X.R.n + 1) c6))) := by
      have hs := (But.one w6 k).setAt 0 (.slice p6 (X.R.n + 1) c6)
      have hnear : ∀ g, (Value.slice p6 (X.R.n + 1) c6).ownBlock = some g → (Value.slice X.R.p X.R.n X.R.c).ownBlock = some g ∨ W.heap.size ≤ g := fun g hg => by
        rcases own_near hn6 hg with e | e
        · exact .inl e
        · exact .inr (by have := HX5.out.2.1.size; omega)
      have hkk : ∀ g, (Value.slice p6 (X.R.n + 1) c6).ownBlock = some g → g ≠ k := fun g hg e => by
        rcases hnear g hg with e2 | e2
        · exact HI.out.d1 (e ▸ e2)
        · omega
      have hbtw : But (X.C k) w (w6.setCell ⟨k, 0, none⟩ (.slice p6 (X.R.n + 1) c6)) := by
        refine ⟨hs.os.trans (hbt6.os.trans HB.out.os), hs.tape.trans (hbt6.tape.trans HB.out.tape), hs.output.trans (hbt6.output.trans HB.out.output), by have := hs.size; have := hbt6.size; have := HB.out.size; omega, fun j hj hn => ?_⟩
        exact (hs.block j (by have := hbt6.size; have := HB.out.size; omega) fun e => hn (.inl e)).trans ((hbt6.block j (by have := HB.out.size; omega) fun e => hn (.inr (.inl e))).trans (HB.out.block j hj))
      refine ⟨⟨⟨?_, ?_, ?_, HI.out.kb, fun e => hkk k e rfl, HI.out.d2, fun g hg e => ?_, fun j hj => ?_, HI.out.mi, by show X.R.n + 1 ≤ 10000; omega, HI.out.mn, by show X.oR ≤ X.R.n + 1; have := HI.out.b1; omega, HI.out.b2⟩, hbtw, fun j hj => ?_⟩, by rw [if_neg hm]; exact LT.push_toL _ _ _ _, by rw [if_neg hm]; simp, rfl, rfl⟩
      · have h5 := hb6.set 0 (.slice p6 (X.R.n + 1) c6)
        show Box _ k #[.slice p6 (X.R.n + 1) c6, .slice X.M.p X.M.n X.M.c, .int .i64 (X.oR : Int), .int .i64 (X.oM : Int)] 57
        simpa only [List.setIfInBounds_toArray, List.set_cons_zero, List.set_cons_succ] using h5
      · exact ownsRow_keep ho6 fun g hg hl => hs.block g hl (hkk g hg)
      · exact ownsRow_keep (ownsRow_keep HI.out.o2 fun g hg hl => hbt6.block g hl fun e => HI.out.d3 g e hg) fun g hg hl => hs.block g hl fun e => HI.out.d2 (e ▸ hg)
      · rcases hnear g hg with e2 | e2
        · exact HI.out.d3 g e2 e
        · have := (HI.out.o2.lt g e).2; omega
      · show RT.In _ _ (if j < X.R.n then X.R.item j else x.r)
        by_cases hjm : j < X.R.n
        · rw [if_pos hjm]
          exact (H0.out.el j hjm).kept hbtw.size fun g hg hl => hbtw.block g hl fun e => by have := (H0.out.c_lt e).1; omega
        · rw [if_neg hjm]
          have h7 : RT.In W (fun b => b < B0) x.r := HX.out.r
          refine h7.kept (by have := hs.size; have := hbt6.size; omega) fun g hg hl => ?_
          exact (hs.block g (by have := hbt6.size; omega) (by have := HI.out.kb; omega)).trans (hbt6.block g hl fun e => by have := (HI.out.o1.lt g e).1; omega)
      · rcases hj with e | e | e
        · exact .inl (.inl e)
        · rcases hnear j e with e2 | e2
          · exact .inl (.inr (.inl e2))
          · exact .inr (by have := HB.out.size; omega)
        · exact .inl (.inr (.inr e))
    clear ho6 hg6 hn6 hb6 HX5 hbt6
    go_simp
    refine hK1 _ _ (fun h => by cases h) ?_
    clear hK1 K1
    refine wpPre_e rfl rfl (fun K1 hK1 => ?_)
    apply Exists.intro
    refine And.intro (fun wx hx => ?_) ?_
    · go_simp
      try rfl
    go_simp
    refine hK1 _ ?_
    clear hK1 K1
    refine wpPre_e rfl rfl (fun K1 hK1 => ?_)
    apply Exists.intro
    refine And.intro (fun wx hx => ?_) ?_
    · go_simp
      try rfl
    go_simp
    refine hK1 _ ?_
    clear hK1 K1
    refine wpPre_nil ?_
    refine wpTr_e rfl (fun K1 hK1 => ?_)
    go_simp
    refine hK1 _ _ (fun h => by cases h) ?_
    clear hK1 K1
    refine wpPre_nil ?_
    refine wpTr_done ?_
    go_wp2
    go_end0
    exact ⟨rfl, _, HS6.out⟩
end Go.Proofs.Ytbcnlfbclgkeiaa
