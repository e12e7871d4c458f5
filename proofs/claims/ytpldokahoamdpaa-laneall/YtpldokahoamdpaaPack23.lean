import Derived.Test.YtpldokahoamdpaaPack22
namespace Go.Proofs.Ytpldokahoamdpaa
open Go.RowKit Go.Conc
set_option maxRecDepth 8000
/-- a call behind a guard that holds -/
theorem step_callW {o : Oper} {a : Act} {w : World} {K : Act → World → Prop} {Q : Exit → Act → World → Prop}
    (f : Nat) (xs : Array Operand) (ts : Array TypeId) (hop : o.op = Op.call { callee := Callee.value (Operand.func f), args := xs, argTypes := ts })
    (F : Func) (hF : Try.prog.funcs[f]? = some F) (hN : (F.name == "runtime.NumGoroutine") = false) (hB : F.body.isNone = false) (vs : Array Value) (hvl : xs.toList.map a.eval = vs.toList) (R : Ending → World → Prop) (hC : Calls Try.prog f vs w R) (hK : ∀ e w', R e w' → ∃ v, e = .returned v ∧ K (a.put o.dst v) w') :
    Oper.wp Try.prog o a w K Q := by
  have h := step_call (ops := #[]) (o := { o with guard := none }) (E := True) (Q := Q) rfl f xs ts hop F hF hN hB vs hvl R hC hK
  rw [if_pos (by simp [Region.wanted])] at h
  exact h
/-- is the reference's lane full -/
def Rf.full (R : Rf) : Bool := decide (0 < R.room) && !R.shut && decide (R.room ≤ (nR R.l.toL : Int))
theorem Rf.full_open {R : Rf} (h : R.shut = false) : R.full = fullB R.room (nR R.l.toL) := by simp [Rf.full, fullB, h]
set_option maxRecDepth 60000 in
set_option maxHeartbeats 4000000 in
/-- Full -/
theorem rfull (w : World) (Z : Nat → Prop) (b : Nat) (R : Rf) (h : RfI w Z b R) : Calls Try.prog 54 #[.pointer (some ⟨b, 0, none⟩)] w fun e w' => e = .returned (.bool R.full) ∧ Below w.heap.size w w' := by
  have c0 := h.c0
  have c1 := h.c1
  have bl := h.box.lt
  have HC : Hid (∀ W, Below w.heap.size w W → Calls Try.prog 71 #[.pointer (some ⟨b, 0, none⟩)] W fun e w' => e = .returned (.int .i64 (nR R.l.toL : Int)) ∧ w' = W) := fun W hW => rheld W Z b R (h.below hW)
  clear h
  by_cases hr : 0 < R.room
  · have hd : decide (0 < R.room) = true := decide_eq_true hr
    cases hsh : R.shut with
    | true =>
      rw [hsh] at c1
      have HE : Hid (R.full = false) := by show _ = _; simp [Rf.full, hsh]
      clear hsh HC
      go_enter Try.func54, Try.ntmps54
      go_wp2_with fail
      refine wp_region_calmE 30 (fun wx => Below w.heap.size w wx) [(0, true), (1, true), (2, true), (3, false), (4, true), (5, true), (6, true), (7, true), (8, true), (9, false), (10, true), (11, true), (12, true), (13, true), (15, true), (16, true), (17, true), (18, false)] (.one 14 true [(19, true), (20, true), (21, true)] .done) (by kernel_rfl) (by kernel_rfl) (Below.refl _ _).drew ?_
      refine wpPre_e rfl rfl (fun K1 hK1 => ?_)
      apply Exists.intro
      refine And.intro (fun wx hx => ?_) ?_
      · go_simp
        try rfl
      go_simp
      refine hK1 _ ?_
      clear hK1 K1
      refine wpPre_e rfl rfl (fun K1 hK1 => ?_)
      apply Exists.intro
      refine And.intro (fun wx hx => ?_) ?_
      · go_simp
        try rfl
      go_simp
      refine hK1 _ ?_
      clear hK1 K1
      refine wpPre_e rfl rfl (fun K1 hK1 => ?_)
      apply Exists.intro
      refine And.intro (fun wx hx => ?_) ?_
      · go_simp
        try rfl
      go_simp
      refine hK1 _ ?_
      clear hK1 K1
      refine wpPre_e rfl rfl (fun K1 hK1 => ?_)
      apply Exists.intro
      refine And.intro (fun wx hx => ?_) ?_
      · have e0 := below_fact hx rfl c0
        have e1 := below_fact hx rfl c1
        go_simp
        try rfl
      go_simp
      refine hK1 _ ?_
      clear hK1 K1
      refine wpPre_e rfl rfl (fun K1 hK1 => ?_)
      apply Exists.intro
      refine And.intro (fun wx hx => ?_) ?_
      · go_simp
        try rfl
      go_simp
      refine hK1 _ ?_
      clear hK1 K1
      refine wpPre_e rfl rfl (fun K1 hK1 => ?_)
      apply Exists.intro
      refine And.intro (fun wx hx => ?_) ?_
      · go_simp
        try rfl
      go_simp
      refine hK1 _ ?_
      clear hK1 K1
      refine wpPre_i rfl (fun K1 hK1 => ?_)
      rw [if_pos (by go_simp)]
      apply Exists.intro
      refine And.intro (fun wx hx => ?_) ?_
      · go_simp
        try rfl
      go_simp
      refine hK1 _ ?_
      clear hK1 K1
      refine wpPre_i rfl (fun K1 hK1 => ?_)
      rw [if_pos (by go_simp)]
      apply Exists.intro
      refine And.intro (fun wx hx => ?_) ?_
      · go_simp
        try rfl
      go_simp
      refine hK1 _ ?_
      clear hK1 K1
      refine wpPre_i rfl (fun K1 hK1 => ?_)
      rw [if_pos (by go_simp)]
      apply Exists.intro
      refine And.intro (fun wx hx => ?_) ?_
      · go_simp
        try rfl
      go_simp
      refine hK1 _ ?_
      clear hK1 K1
      refine wpPre_i rfl (fun K1 hK1 => ?_)
      rw [if_pos (by go_simp)]
      apply Exists.intro
      refine And.intro (fun wx hx => ?_) ?_
      · have e0 := below_fact hx rfl c0
        have e1 := below_fact hx rfl c1
        go_simp
        try rfl
      go_simp
      refine hK1 _ ?_
      clear hK1 K1
      refine wpPre_i rfl (fun K1 hK1 => ?_)
      rw [if_pos (by go_simp)]
      apply Exists.intro
      refine And.intro (fun wx hx => ?_) ?_
      · go_simp
        try rfl
      go_simp
      refine hK1 _ ?_
      clear hK1 K1
      refine wpPre_e rfl rfl (fun K1 hK1 => ?_)
      apply Exists.intro
      refine And.intro (fun wx hx => ?_) ?_
      · go_simp
        try rfl
      go_simp
      refine hK1 _ ?_
      clear hK1 K1
      refine wpPre_e rfl rfl (fun K1 hK1 => ?_)
      apply Exists.intro
      refine And.intro (fun wx hx => ?_) ?_
      · go_simp
        try rfl
      go_simp
      refine hK1 _ ?_
      clear hK1 K1
      refine wpPre_i rfl (fun K1 hK1 => ?_)
      rw [if_neg (by go_simp; all_goals (intro h; cases h))]
      go_simp
      refine hK1 _ ?_
      clear hK1 K1
      refine wpPre_i rfl (fun K1 hK1 => ?_)
      rw [if_neg (by go_simp; all_goals (intro h; cases h))]
      go_simp
      refine hK1 _ ?_
      clear hK1 K1
      refine wpPre_i rfl (fun K1 hK1 => ?_)
      rw [if_neg (by go_simp; all_goals (intro h; cases h))]
      go_simp
      refine hK1 _ ?_
      clear hK1 K1
      refine wpPre_i rfl (fun K1 hK1 => ?_)
      rw [if_neg (by go_simp; all_goals (intro h; cases h))]
      go_simp
      refine hK1 _ ?_
      clear hK1 K1
      refine wpPre_i rfl (fun K1 hK1 => ?_)
      rw [if_neg (by go_simp; all_goals (intro h; cases h))]
      go_simp
      refine hK1 _ ?_
      clear hK1 K1
      refine wpPre_nil ?_
      refine wpTr_e rfl (fun K1 hK1 => ?_)
      rw [if_neg (by go_simp; all_goals (intro h; cases h))]
      go_simp
      refine hK1 _ _ (fun _ => (Below.refl _ _).drew) ?_
      clear hK1 K1
      refine wpPre_i rfl (fun K1 hK1 => ?_)
      rw [if_neg (by go_simp; all_goals (intro h; cases h))]
      go_simp
      refine hK1 _ ?_
      clear hK1 K1
      refine wpPre_e rfl rfl (fun K1 hK1 => ?_)
      apply Exists.intro
      refine And.intro (fun wx hx => ?_) ?_
      · go_simp
        try rfl
      go_simp
      refine hK1 _ ?_
      clear hK1 K1
      refine wpPre_e rfl rfl (fun K1 hK1 => ?_)
      apply Exists.intro
      refine And.intro (fun wx hx => ?_) ?_
      · go_simp
        try rfl
      go_simp
      refine hK1 _ ?_
      clear hK1 K1
      refine wpPre_nil ?_
      refine wpTr_done ?_
      go_wp2
      refine bodyPost_ret (v := .bool R.full) (by rw [HE.out]; simp [results, Try.results54, go_sem]) rfl ⟨rfl, (Below.refl _ _).drew⟩
    | false =>
      rw [hsh] at c1
      have HE : Hid (R.full = decide (R.room ≤ (nR R.l.toL : Int))) := by show _ = _; simp [Rf.full, hsh, hr]
      clear hsh
      go_enter Try.func54, Try.ntmps54
      go_wp2_with fail
      refine wp_region_calmE 30 (fun wx => Below w.heap.size w wx) [(0, true), (1, true), (2, true), (3, false), (4, true), (5, true), (6, true), (7, true), (8, true), (9, false), (10, true), (11, true), (12, true), (13, true), (15, true), (16, true), (17, true), (18, false)] (.one 14 true [(19, true), (20, true), (21, true)] .done) (by kernel_rfl) (by kernel_rfl) (Below.refl _ _).drew ?_
      refine wpPre_e rfl rfl (fun K1 hK1 => ?_)
      apply Exists.intro
      refine And.intro (fun wx hx => ?_) ?_
      · go_simp
        try rfl
      go_simp
      refine hK1 _ ?_
      clear hK1 K1
      refine wpPre_e rfl rfl (fun K1 hK1 => ?_)
      apply Exists.intro
      refine And.intro (fun wx hx => ?_) ?_
      · go_simp
        try rfl
      go_simp
      refine hK1 _ ?_
      clear hK1 K1
      refine wpPre_e rfl rfl (fun K1 hK1 => ?_)
      apply Exists.intro
      refine And.intro (fun wx hx => ?_) ?_
      · go_simp
        try rfl
      go_simp
      refine hK1 _ ?_
      clear hK1 K1
      refine wpPre_e rfl rfl (fun K1 hK1 => ?_)
      apply Exists.intro
      refine And.intro (fun wx hx => ?_) ?_
      · have e0 := below_fact hx rfl c0
        have e1 := below_fact hx rfl c1
        go_simp
        try rfl
      go_simp
      refine hK1 _ ?_
      clear hK1 K1
      refine wpPre_e rfl rfl (fun K1 hK1 => ?_)
      apply Exists.intro
      refine And.intro (fun wx hx => ?_) ?_
      · go_simp
        try rfl
      go_simp
      refine hK1 _ ?_
      clear hK1 K1
      refine wpPre_e rfl rfl (fun K1 hK1 => ?_)
      apply Exists.intro
      refine And.intro (fun wx hx => ?_) ?_
      · go_simp
        try rfl
      go_simp
      refine hK1 _ ?_
      clear hK1 K1
      refine wpPre_i rfl (fun K1 hK1 => ?_)
      rw [if_pos (by go_simp)]
      apply Exists.intro
      refine And.intro (fun wx hx => ?_) ?_
      · go_simp
        try rfl
      go_simp
      refine hK1 _ ?_
      clear hK1 K1
      refine wpPre_i rfl (fun K1 hK1 => ?_)
      rw [if_pos (by go_simp)]
      apply Exists.intro
      refine And.intro (fun wx hx => ?_) ?_
      · go_simp
        try rfl
      go_simp
      refine hK1 _ ?_
      clear hK1 K1
      refine wpPre_i rfl (fun K1 hK1 => ?_)
      rw [if_pos (by go_simp)]
      apply Exists.intro
      refine And.intro (fun wx hx => ?_) ?_
      · go_simp
        try rfl
      go_simp
      refine hK1 _ ?_
      clear hK1 K1
      refine wpPre_i rfl (fun K1 hK1 => ?_)
      rw [if_pos (by go_simp)]
      apply Exists.intro
      refine And.intro (fun wx hx => ?_) ?_
      · have e0 := below_fact hx rfl c0
        have e1 := below_fact hx rfl c1
        go_simp
        try rfl
      go_simp
      refine hK1 _ ?_
      clear hK1 K1
      refine wpPre_i rfl (fun K1 hK1 => ?_)
      rw [if_pos (by go_simp)]
      apply Exists.intro
      refine And.intro (fun wx hx => ?_) ?_
      · go_simp
        try rfl
      go_simp
      refine hK1 _ ?_
      clear hK1 K1
      refine wpPre_e rfl rfl (fun K1 hK1 => ?_)
      apply Exists.intro
      refine And.intro (fun wx hx => ?_) ?_
      · go_simp
        try rfl
      go_simp
      refine hK1 _ ?_
      clear hK1 K1
      refine wpPre_e rfl rfl (fun K1 hK1 => ?_)
      apply Exists.intro
      refine And.intro (fun wx hx => ?_) ?_
      · go_simp
        try rfl
      go_simp
      refine hK1 _ ?_
      clear hK1 K1
      refine wpPre_i rfl (fun K1 hK1 => ?_)
      rw [if_pos (by go_simp)]
      apply Exists.intro
      refine And.intro (fun wx hx => ?_) ?_
      · go_simp
        try rfl
      go_simp
      refine hK1 _ ?_
      clear hK1 K1
      refine wpPre_i rfl (fun K1 hK1 => ?_)
      rw [if_pos (by go_simp)]
      apply Exists.intro
      refine And.intro (fun wx hx => ?_) ?_
      · go_simp
        try rfl
      go_simp
      refine hK1 _ ?_
      clear hK1 K1
      refine wpPre_i rfl (fun K1 hK1 => ?_)
      rw [if_pos (by go_simp)]
      apply Exists.intro
      refine And.intro (fun wx hx => ?_) ?_
      · go_simp
        try rfl
      go_simp
      refine hK1 _ ?_
      clear hK1 K1
      refine wpPre_i rfl (fun K1 hK1 => ?_)
      rw [if_pos (by go_simp)]
      apply Exists.intro
      refine And.intro (fun wx hx => ?_) ?_
      · go_simp
        try rfl
      go_simp
      refine hK1 _ ?_
      clear hK1 K1
      refine wpPre_i rfl (fun K1 hK1 => ?_)
      rw [if_pos (by go_simp)]
      apply Exists.intro
      refine And.intro (fun wx hx => ?_) ?_
      · have e0 := below_fact hx rfl c0
        have e1 := below_fact hx rfl c1
        go_simp
        try rfl
      go_simp
      refine hK1 _ ?_
      clear hK1 K1
      refine wpPre_nil ?_
      refine wpTr_e rfl (fun K1 hK1 => ?_)
      rw [if_pos (by go_simp)]
      refine step_callW 71 #[.tmp 16] _ rfl Try.f71 Try.func71 (by kernel_rfl) rfl #[.pointer (some ⟨b, 0, none⟩)] rfl _ (HC.out _ (Below.refl _ _).drew) (fun e w4 h4 => ?_)
      obtain ⟨rfl, rfl⟩ := h4
      refine ⟨_, rfl, ?_⟩
      go_simp
      refine hK1 _ _ (fun _ => (Below.refl _ _).drew) ?_
      clear hK1 K1
      refine wpPre_i rfl (fun K1 hK1 => ?_)
      rw [if_pos (by go_simp)]
      apply Exists.intro
      refine And.intro (fun wx hx => ?_) ?_
      · go_simp
        try rfl
      go_simp
      refine hK1 _ ?_
      clear hK1 K1
      refine wpPre_e rfl rfl (fun K1 hK1 => ?_)
      apply Exists.intro
      refine And.intro (fun wx hx => ?_) ?_
      · go_simp
        try rfl
      go_simp
      refine hK1 _ ?_
      clear hK1 K1
      refine wpPre_e rfl rfl (fun K1 hK1 => ?_)
      apply Exists.intro
      refine And.intro (fun wx hx => ?_) ?_
      · go_simp
        try rfl
      go_simp
      refine hK1 _ ?_
      clear hK1 K1
      refine wpPre_nil ?_
      refine wpTr_done ?_
      go_wp2
      refine bodyPost_ret (v := .bool R.full) (by rw [HE.out]; simp [results, Try.results54, go_sem]) rfl ⟨rfl, (Below.refl _ _).drew⟩
  · have hd : decide (0 < R.room) = false := decide_eq_false hr
    have HE : Hid (R.full = false) := by unfold Rf.full; rw [hd]; rfl
    clear HC
    go_enter Try.func54, Try.ntmps54
    go_wp2_with fail
    refine wp_region_calmE 30 (fun wx => Below w.heap.size w wx) [(0, true), (1, true), (2, true), (3, false), (4, true), (5, true), (6, true), (7, true), (8, true), (9, false), (10, true), (11, true), (12, true), (13, true), (15, true), (16, true), (17, true), (18, false)] (.one 14 true [(19, true), (20, true), (21, true)] .done) (by kernel_rfl) (by kernel_rfl) (Below.refl _ _).drew ?_
    refine wpPre_e rfl rfl (fun K1 hK1 => ?_)
    apply Exists.intro
    refine And.intro (fun wx hx => ?_) ?_
    · go_simp
      try rfl
    go_simp
    refine hK1 _ ?_
    clear hK1 K1
    refine wpPre_e rfl rfl (fun K1 hK1 => ?_)
    apply Exists.intro
    refine And.intro (fun wx hx => ?_) ?_
    · go_simp
      try rfl
    go_simp
    refine hK1 _ ?_
    clear hK1 K1
    refine wpPre_e rfl rfl (fun K1 hK1 => ?_)
    apply Exists.intro
    refine And.intro (fun wx hx => ?_) ?_
    · go_simp
      try rfl
    go_simp
    refine hK1 _ ?_
    clear hK1 K1
    refine wpPre_e rfl rfl (fun K1 hK1 => ?_)
    apply Exists.intro
    refine And.intro (fun wx hx => ?_) ?_
    · have e0 := below_fact hx rfl c0
      have e1 := below_fact hx rfl c1
      go_simp
      try rfl
    go_simp
    refine hK1 _ ?_
    clear hK1 K1
    refine wpPre_e rfl rfl (fun K1 hK1 => ?_)
    apply Exists.intro
    refine And.intro (fun wx hx => ?_) ?_
    · go_simp
      try rfl
    go_simp
    refine hK1 _ ?_
    clear hK1 K1
    refine wpPre_e rfl rfl (fun K1 hK1 => ?_)
    apply Exists.intro
    refine And.intro (fun wx hx => ?_) ?_
    · go_simp
      try rfl
    go_simp
    refine hK1 _ ?_
    clear hK1 K1
    refine wpPre_i rfl (fun K1 hK1 => ?_)
    rw [if_neg (by go_simp; all_goals (intro h; cases h))]
    go_simp
    refine hK1 _ ?_
    clear hK1 K1
    refine wpPre_i rfl (fun K1 hK1 => ?_)
    rw [if_neg (by go_simp; all_goals (intro h; cases h))]
    go_simp
    refine hK1 _ ?_
    clear hK1 K1
    refine wpPre_i rfl (fun K1 hK1 => ?_)
    rw [if_neg (by go_simp; all_goals (intro h; cases h))]
    go_simp
    refine hK1 _ ?_
    clear hK1 K1
    refine wpPre_i rfl (fun K1 hK1 => ?_)
    rw [if_neg (by go_simp; all_goals (intro h; cases h))]
    go_simp
    refine hK1 _ ?_
    clear hK1 K1
    refine wpPre_i rfl (fun K1 hK1 => ?_)
    rw [if_neg (by go_simp; all_goals (intro h; cases h))]
    go_simp
    refine hK1 _ ?_
    clear hK1 K1
    refine wpPre_e rfl rfl (fun K1 hK1 => ?_)
    apply Exists.intro
    refine And.intro (fun wx hx => ?_) ?_
    · go_simp
      try rfl
    go_simp
    refine hK1 _ ?_
    clear hK1 K1
    refine wpPre_e rfl rfl (fun K1 hK1 => ?_)
    apply Exists.intro
    refine And.intro (fun wx hx => ?_) ?_
    · go_simp
      try rfl
    go_simp
    refine hK1 _ ?_
    clear hK1 K1
    refine wpPre_i rfl (fun K1 hK1 => ?_)
    rw [if_neg (by go_simp; all_goals (intro h; cases h))]
    go_simp
    refine hK1 _ ?_
    clear hK1 K1
    refine wpPre_i rfl (fun K1 hK1 => ?_)
    rw [if_neg (by go_simp; all_goals (intro h; cases h))]
    go_simp
    refine hK1 _ ?_
    clear hK1 K1
    refine wpPre_i rfl (fun K1 hK1 => ?_)
    rw [if_neg (by go_simp; all_goals (intro h; cases h))]
    go_simp
    refine hK1 _ ?_
    clear hK1 K1
    refine wpPre_i rfl (fun K1 hK1 => ?_)
    rw [if_neg (by go_simp; all_goals (intro h; cases h))]
    go_simp
    refine hK1 _ ?_
    clear hK1 K1
    refine wpPre_i rfl (fun K1 hK1 => ?_)
    rw [if_neg (by go_simp; all_goals (intro h; cases h))]
    go_simp
    refine hK1 _ ?_
    clear hK1 K1
    refine wpPre_nil ?_
    refine wpTr_e rfl (fun K1 hK1 => ?_)
    rw [if_neg (by go_simp; all_goals (intro h; cases h))]
    go_simp
    refine hK1 _ _ (fun _ => (Below.refl _ _).drew) ?_
    clear hK1 K1
    refine wpPre_i rfl (fun K1 hK1 => ?_)
    rw [if_neg (by go_simp; all_goals (intro h; cases h))]
    go_simp
    refine hK1 _ ?_
    clear hK1 K1
    refine wpPre_e rfl rfl (fun K1 hK1 => ?_)
    apply Exists.intro
    refine And.intro (fun wx hx => ?_) ?_
    · go_simp
      try rfl
    go_simp
    refine hK1 _ ?_
    clear hK1 K1
    refine wpPre_e rfl rfl (fun K1 hK1 => ?_)
    apply Exists.intro
    refine And.intro (fun wx hx => ?_) ?_
    · go_simp
      try rfl
    go_simp
    refine hK1 _ ?_
    clear hK1 K1
    refine wpPre_nil ?_
    refine wpTr_done ?_
    go_wp2
    refine bodyPost_ret (v := .bool R.full) (by rw [HE.out]; simp [results, Try.results54, go_sem]) rfl ⟨rfl, (Below.refl _ _).drew⟩
/-- why the reference refuses an item -/
def Rf.why (R : Rf) (m : Int) : Int := if R.shut = true then 53 else refI R.room (nR R.l.toL) m
set_option maxRecDepth 60000 in
set_option maxHeartbeats 4000000 in
theorem rwhy (w : World) (Z : Nat → Prop) (b : Nat) (R : Rf) (h : RfI w Z b R) (x : IT) : Calls Try.prog 68 #[.pointer (some ⟨b, 0, none⟩), .agg #[.int .i64 x.mark, .string x.r.key, .int .i64 x.r.v.kind, .int .i64 x.r.v.int, .string x.r.v.text, .slice x.r.v.p x.r.v.n x.r.v.c, .slice x.r.p x.r.n x.r.c]] w fun e w' => e = .returned (.int .i64 (R.why x.mark)) ∧ Below w.heap.size w w' := by
  obtain ⟨W, hW⟩ : ∃ W, W = w.alloc (.cells #[.int .i64 x.mark, .string x.r.key, .int .i64 x.r.v.kind, .int .i64 x.r.v.int, .string x.r.v.text, .slice x.r.v.p x.r.v.n x.r.v.c, .slice x.r.p x.r.n x.r.c] 35) := ⟨_, rfl⟩
  have hB : Below w.heap.size w W := by rw [hW]; exact (Below.refl _ _).alloc (Nat.le_refl _) _
  have hX : Box W w.heap.size #[.int .i64 x.mark, .string x.r.key, .int .i64 x.r.v.kind, .int .i64 x.r.v.int, .string x.r.v.text, .slice x.r.v.p x.r.v.n x.r.v.c, .slice x.r.p x.r.n x.r.c] 35 := by rw [hW]; exact Box.new _ _ _
  have HF := hid (rfull W Z b R (h.below hB))
  have HI := hid (h.below hB)
  have HB := hid hB
  have HW := hid hW
  have HX := hid hX
  clear h hB hW hX
  go_enter Try.func68, Try.ntmps68
  go_upto_region 1 with fail
  rw [← HW.out]
  go_wp2_with fail
  refine HF.out.mono ?_
  rintro e w1 ⟨rfl, hB1⟩
  have hI1 := HI.out.below hB1
  have c1 := hI1.c1
  have bl := hI1.box.lt
  have z0 : w1.cell? ⟨w.heap.size, 0, none⟩ = some (.int .i64 x.mark) := by rw [(HX.out.below hB1).cell]; rfl
  have zl := (HX.out.below hB1).lt
  have HB1 := hid (HB.out.trans (hB1.mono HB.out.size))
  clear hI1 hB1 HF
  cases hsh : R.shut with
  | true =>
    rw [hsh] at c1
    have HE : Hid (R.why x.mark = 53) := by show _ = _; simp [Rf.why, hsh]
    clear hsh
    go_wp2
    refine bodyPost_ret (v := .int .i64 53) (by simp [results, Try.results68, go_sem]) rfl ⟨by rw [HE.out], HB1.out⟩
  | false =>
    rw [hsh] at c1
    have hfo := Rf.full_open hsh
    have hwy : R.why x.mark = refI R.room (nR R.l.toL) x.mark := by simp [Rf.why, hsh]
    clear hsh
    by_cases hneg : x.mark < 0
    · have HE : Hid (R.why x.mark = 52) := by show _ = _; rw [hwy]; simp [refI, hneg]
      clear hwy hfo
      go_wp2
      refine bodyPost_ret (v := .int .i64 52) (by simp [results, Try.results68, go_sem]) rfl ⟨by rw [HE.out], HB1.out⟩
    · by_cases hm : x.mark = 0
      · have hm' : (x.mark == 0) = true := by simp [hm]
        cases hf : R.full with
        | true =>
          have HE : Hid (R.why x.mark = 51) := by show _ = _; rw [hwy]; simp [refI, hm, ← hfo, hf]
          clear hwy hfo hf hm
          go_wp2
          refine bodyPost_ret (v := .int .i64 51) (by simp [results, Try.results68, go_sem]) rfl ⟨by rw [HE.out], HB1.out⟩
        | false =>
          have HE : Hid (R.why x.mark = 0) := by show _ = _; rw [hwy]; simp [refI, hm, ← hfo, hf]
          clear hwy hfo hf hm
          go_wp2
          refine bodyPost_ret (v := .int .i64 0) (by simp [results, Try.results68, go_sem]) rfl ⟨by rw [HE.out], HB1.out⟩
      · have hm' : (x.mark == 0) = false := by simp [hm]
        have HE : Hid (R.why x.mark = 0) := by show _ = _; rw [hwy]; simp [refI, hm, hneg]
        clear hwy hfo hm
        go_wp2
        refine bodyPost_ret (v := .int .i64 0) (by simp [results, Try.results68, go_sem]) rfl ⟨by rw [HE.out], HB1.out⟩
end Go.Proofs.Ytpldokahoamdpaa

namespace Go.Proofs.Ytpldokahoamdpaa
open Go.RowKit Go.Conc
set_option maxRecDepth 8000
/-- another row is laid into the reference's lane -/
theorem RfI.set {w w1 : World} {Z : Nat → Prop} {b : Nat} {R : Rf} (h : RfI w Z b R) (hZ : ∀ k, Z k → k < w.heap.size) (hb : But (fun k => R.own = some k) w w1) (l : LT IT) (ho : w1.ownsRow 0 35 7 (.slice l.p l.n l.c) l.n (rowsE elItem l))
    (hnew : ∀ g, (Value.slice l.p l.n l.c).ownBlock = some g → R.own = some g ∨ w.heap.size ≤ g) (hlen : l.n ≤ 30000) (hsh : R.shut = true → l.n = 0)
    (hit : ∀ j, j < l.n → IT.In w1 (fun k => k ≠ b ∧ (Value.slice l.p l.n l.c).ownBlock ≠ some k ∧ ¬ Z k) (l.item j) ∧ IT.Fine (l.item j)) : RSet w Z b R (w1.setCell ⟨b, 2, none⟩ (.slice l.p l.n l.c)) ⟨R.room, R.shut, l⟩ := by
  have hs := (But.one w1 b).setAt 2 (.slice l.p l.n l.c)
  have hbl := h.box.lt
  have hdb : ∀ g, (Value.slice l.p l.n l.c).ownBlock = some g → g ≠ b := fun g hg e => by
    rcases hnew g hg with e2 | e2
    · exact h.d (e ▸ e2)
    · omega
  have hbx := h.box.but hb h.d
  refine ⟨⟨?_, ownsRow_keep ho fun g hg hl => hs.block g hl (hdb g hg), fun e => hdb b e rfl, h.r0, h.r1, hlen, fun j hj => ⟨?_, (hit j hj).2⟩, fun k hk hz => ?_, hsh⟩, ?_, fun k hk => ?_, rfl⟩
  · have h5 := hbx.set 2 (.slice l.p l.n l.c)
    simpa only [List.setIfInBounds_toArray, List.set_cons_zero, List.set_cons_succ] using h5
  · exact ((hit j hj).1.kept hs.size fun k hk hl => hs.block k hl hk.1).mono fun k hk _ => ⟨fun e => e.elim hk.1 hk.2.1, hk.2.2⟩
  · rcases hk with e | e
    · exact h.cz k (.inl e) hz
    · rcases hnew k e with e2 | e2
      · exact h.cz k (.inr e2) hz
      · have := hZ k hz; omega
  · refine ⟨hs.os.trans hb.os, hs.tape.trans hb.tape, hs.output.trans hb.output, by have := hs.size; have := hb.size; omega, fun k hk hn => ?_⟩
    exact (hs.block k (by have := hb.size; omega) fun e => hn (.inl e)).trans (hb.block k hk fun e => hn (.inr e))
  · rcases hk with e | e
    · exact .inl (.inl e)
    · rcases hnew k e with e2 | e2
      · exact .inl (.inr e2)
      · exact .inr e2
def Rf.whyq (R : Rf) (q : List IT) (m : Int) : Int := if R.shut = true then 53 else refI R.room (nR q) m
structure RPutS (w : World) (Z : Nat → Prop) (b : Nat) (R : Rf) (l : LT IT) (us : List IT) (R' : Rf) (w' : World) : Prop where
  q : R'.l.toL = R.l.toL ++ us
  shut : R'.shut = R.shut
  set : RSet w Z b R w' R'
  le : us.length ≤ l.n
  each : ∀ j x, us[j]? = some x → CopyI (l.item j) x ∧ R.whyq (R.l.toL ++ us.take j) (l.item j).mark = 0
def RPutQ (w : World) (Z : Nat → Prop) (b : Nat) (R : Rf) (l : LT IT) (e : Ending) (w' : World) : Prop := ∃ us R' er, e = .returned (.tuple #[.int .i64 ((us : List IT).length : Int), .int .i64 er]) ∧ RPutS w Z b R l us R' w' ∧
  ((us.length = l.n ∧ er = 0) ∨ (us.length < l.n ∧ er ≠ 0 ∧ er = R.whyq (R.l.toL ++ us) (l.item us.length).mark))
set_option maxRecDepth 60000 in
set_option maxHeartbeats 8000000 in
/-- Put -/
theorem rput (w : World) (Z : Nat → Prop) (b : Nat) (R : Rf) (hI : RfI w Z b R) (hZ : ∀ k, Z k → k < w.heap.size) (l : LT IT) (S : Nat → Prop) (hl : LT.In elItem w S l) (hS : ∀ k, k < w.heap.size → S k → ¬ R.C b k) (hsz : ∀ j, j < l.n → (l.item j).r.n + (l.item j).r.v.total ≤ 10000) (hlen : R.l.n + l.n ≤ 30000) :
    Calls Try.prog 46 #[.pointer (some ⟨b, 0, none⟩), .slice l.p l.n l.c] w fun e w' => RPutQ w Z b R l e w' := by
  obtain ⟨i0, Kd⟩ := kindIt
  have HKd := hid Kd
  have hnn := hl.nn
  have H0 : Hid (RPutS w Z b R l [] R w) := ⟨by simp, rfl, RSet.refl hI, Nat.zero_le _, fun j x h => by simp at h⟩
  have HL := hid hl
  have HS := hid hS
  have HZ := hid hZ
  have HI := hid hI
  clear hl hS hZ hI Kd
  go_enter Try.func46, Try.ntmps46
  go_wp2_with fail
  go_loopw [6] (fun v wr => ∃ us R', v = .int .i64 ((us : List IT).length : Int) ∧ RPutS w Z b R l us R' wr) (fun v _ => l.n - (intOf v).toNat)
  case atStart => exact ⟨[], R, rfl, H0.out⟩
  case round =>
    obtain ⟨us, R', rfl, hP⟩ := hrel
    obtain ⟨k, hk⟩ : ∃ k, k = us.length := ⟨_, rfl⟩
    rw [← hk]
    have HP := hid hP
    have HK := hid hk
    have hkl : k ≤ l.n := by rw [hk]; exact hP.le
    clear hP hk H0
    by_cases hlt : k < l.n
    · have hlt' : (k : Int) < (l.n : Int) := by omega
      obtain ⟨bb, o, hp, hSb, hbb, hat⟩ := HL.out.at_ (by omega)
      rw [hp]
      have hcell : ∀ r u, (elItem.cells (l.item k))[r]? = some u → wr.cell? ⟨bb, o + k * 7 + r, none⟩ = some u := fun r u hu => (World.cell?_of_block (a := ⟨bb, o + k * 7 + r, none⟩) (HP.out.set.but.block bb hbb (HS.out bb hbb hSb))).trans (hat k hlt r u hu)
      have hbb2 : bb < wr.heap.size := Nat.lt_of_lt_of_le hbb HP.out.set.but.size
      have hinx : IT.In wr S (l.item k) := (((HL.out.each k hlt).mono (S' := fun j => S j ∧ j < w.heap.size) fun j hj hl => ⟨hj, hl⟩).kept HP.out.set.but.size fun j hj hl => HP.out.set.but.block j hl (HS.out j hl hj.1)).mono fun j hj _ => hj.1
      obtain ⟨x, hx⟩ : ∃ x, x = l.item k := ⟨_, rfl⟩
      have hszx := hsz k hlt
      rw [← hx] at hcell hinx hszx
      have c0 : wr.cell? ⟨bb, o + k * 7, none⟩ = some (.int .i64 x.mark) := hcell 0 _ rfl
      have c1 := hcell 1 _ rfl
      have c2 := hcell 2 _ rfl
      have c3 := hcell 3 _ rfl
      have c4 := hcell 4 _ rfl
      have c5 := hcell 5 _ rfl
      have c6 := hcell 6 _ rfl
      have HRf := hid (rwhy wr Z b R' HP.out.set.ln x)
      have HXk := hid hx
      have HIn := hid hinx
      have HCe := hid hcell
      clear hcell hat hx hinx
      go_wp2_with fail
      refine HRf.out.mono ?_
      rintro e w1 ⟨rfl, hB1⟩
      have HB1 := hid hB1
      clear c0 c1 c2 c3 c4 c5 c6
      have hcell1 : ∀ r u, (elItem.cells x)[r]? = some u → w1.cell? ⟨bb, o + k * 7 + r, none⟩ = some u := fun r u hu => (World.cell?_of_block (a := ⟨bb, o + k * 7 + r, none⟩) (HB1.out.block bb hbb2)).trans (HCe.out r u hu)
      have c0 : w1.cell? ⟨bb, o + k * 7, none⟩ = some (.int .i64 x.mark) := hcell1 0 _ rfl
      have c1 := hcell1 1 _ rfl
      have c2 := hcell1 2 _ rfl
      have c3 := hcell1 3 _ rfl
      have c4 := hcell1 4 _ rfl
      have c5 := hcell1 5 _ rfl
      have c6 := hcell1 6 _ rfl
      clear hcell1 hB1 HRf
      have hroom : R'.room = R.room := HP.out.set.room
      obtain ⟨er, her⟩ : ∃ er, er = R'.why x.mark := ⟨_, rfl⟩
      rw [← her]
      have HEr : Hid (er = R.whyq (R.l.toL ++ us) x.mark) := by
        show _ = _
        rw [her, Rf.why, Rf.whyq, HP.out.q, HP.out.shut, hroom]
      clear her hroom
      have HSt := hid (RSet.trans HP.out.set (RSet.below HP.out.set.ln HB1.out))
      by_cases he : er = 0
      · have he' : (er != 0) = false := by simp [he]
        have HE0 := hid he
        have hno : R.shut = false ∧ 0 ≤ x.mark := by
          have h1 := HEr.out
          rw [he, Rf.whyq] at h1
          split at h1
          · cases h1
          · rename_i h2
            refine ⟨by simpa using h2, ?_⟩
            unfold refI at h1
            split at h1
            · cases h1
            · omega
        have HNo := hid hno
        have HCp := hid (ritem x w1 S (HIn.out.below HB1.out) hszx hno.2)
        clear he hno
        go_wp2_with fail
        refine HCp.out.mono ?_
        rintro e w2 ⟨u, rfl, hcp, hinu, hB2⟩
        clear c0 c1 c2 c3 c4 c5 c6
        obtain ⟨W2, hW2⟩ : ∃ V, V = w2.alloc (.cells #[.int .i64 u.mark, .string u.r.key, .int .i64 u.r.v.kind, .int .i64 u.r.v.int, .string u.r.v.text, .slice u.r.v.p u.r.v.n u.r.v.c, .slice u.r.p u.r.n u.r.c] 35) := ⟨_, rfl⟩
        have hB3 : Below w2.heap.size w2 W2 := by rw [hW2]; exact (Below.refl _ _).alloc (Nat.le_refl _) _
        have hX2 : Box W2 w2.heap.size #[.int .i64 u.mark, .string u.r.key, .int .i64 u.r.v.kind, .int .i64 u.r.v.int, .string u.r.v.text, .slice u.r.v.p u.r.v.n u.r.v.c, .slice u.r.p u.r.n u.r.c] 35 := by rw [hW2]; exact Box.new _ _ _
        have hB4 : Below w1.heap.size w1 W2 := hB2.trans (hB3.mono hB2.size)
        have hSt2 := RSet.trans HSt.out (RSet.below HSt.out.ln hB4)
        have HSt2 := hid hSt2
        have hI2 := hSt2.ln
        have HI2 := hid hI2
        have c2 := hI2.c2
        have bl := hI2.box.lt
        have hn2 : R'.l.n < 30000 := by
          have e1 := HP.out.q
          have e2 := congrArg List.length e1
          rw [LT.toL_len, List.length_append, LT.toL_len, ← HK.out] at e2
          omega
        have HU := hid (And.intro hcp (And.intro (hcp.fine hszx HNo.out.2) ((hinu.below hB3).mono (S' := fun j => w1.heap.size ≤ j ∧ j < w2.heap.size + 1) fun j hj hl => ⟨hj, by rw [hW2] at hl; simpa using hl⟩)))
        have q0 := hX2.cell 0
        have q1 := hX2.cell 1
        have q2 := hX2.cell 2
        have q3 := hX2.cell 3
        have q4 := hX2.cell 4
        have q5 := hX2.cell 5
        have q6 := hX2.cell 6
        simp at q0 q1 q2 q3 q4 q5 q6
        have ql := hX2.lt
        have hs1 := HSt.out.but.size
        have hs2 := hB4.size
        have hcl : ∀ j, R'.C b j → j < w1.heap.size := fun j hj => by
          have := HP.out.set.ln.c_lt hj
          have := HB1.out.size
          omega
        have HCl := hid hcl
        have HW2 := hid hW2
        clear hcp hinu hB2 hB3 hX2 hB4 hSt2 hI2 hcl hW2
        go_upto_region 8 with fail
        rw [← HW2.out]
        refine wp_region_calmE 30 (fun wx => Below W2.heap.size W2 wx) [(0, true), (1, true), (2, true), (3, true), (4, false), (5, false)] (.one 6 true [] (.one 7 false [(8, true), (9, true)] (.one 10 false [] .done))) (by kernel_rfl) (by kernel_rfl) (Below.refl _ _).drew ?_
        refine wpPre_e rfl rfl (fun K1 hK1 => ?_)
        apply Exists.intro
        refine And.intro (fun wx hx => ?_) ?_
        · go_simp
          try rfl
        go_simp
        refine hK1 _ ?_
        clear hK1 K1
        refine wpPre_e rfl rfl (fun K1 hK1 => ?_)
        apply Exists.intro
        refine And.intro (fun wx hx => ?_) ?_
        · go_simp
          try rfl
        go_simp
        refine hK1 _ ?_
        clear hK1 K1
        refine wpPre_e rfl rfl (fun K1 hK1 => ?_)
        apply Exists.intro
        refine And.intro (fun wx hx => ?_) ?_
        · go_simp
          try rfl
        go_simp
        refine hK1 _ ?_
        clear hK1 K1
        refine wpPre_e rfl rfl (fun K1 hK1 => ?_)
        apply Exists.intro
        refine And.intro (fun wx hx => ?_) ?_
        · go_simp
          try rfl
        go_simp
        refine hK1 _ ?_
        clear hK1 K1
        refine wpPre_e rfl rfl (fun K1 hK1 => ?_)
        apply Exists.intro
        refine And.intro (fun wx hx => ?_) ?_
        · have e0 := below_fact hx rfl c2
          have e1 := below_fact hx rfl q0
          have e2 := below_fact hx rfl q1
          have e3 := below_fact hx rfl q2
          have e4 := below_fact hx rfl q3
          have e5 := below_fact hx rfl q4
          have e6 := below_fact hx rfl q5
          have e7 := below_fact hx rfl q6
          go_simp
          try rfl
        go_simp
        refine hK1 _ ?_
        clear hK1 K1
        refine wpPre_e rfl rfl (fun K1 hK1 => ?_)
        apply Exists.intro
        refine And.intro (fun wx hx => ?_) ?_
        · have e0 := below_fact hx rfl c2
          have e1 := below_fact hx rfl q0
          have e2 := below_fact hx rfl q1
          have e3 := below_fact hx rfl q2
          have e4 := below_fact hx rfl q3
          have e5 := below_fact hx rfl q4
          have e6 := below_fact hx rfl q5
          have e7 := below_fact hx rfl q6
          go_simp
          try rfl
        go_simp
        refine hK1 _ ?_
        clear hK1 K1
        refine wpPre_nil ?_
        refine wpTr_e rfl (fun K1 hK1 => ?_)
        go_simp
        have hb5 : Below W2.heap.size W2 (W2.alloc (.cells #[.int .i64 u.mark, .string u.r.key, .int .i64 u.r.v.kind, .int .i64 u.r.v.int, .string u.r.v.text, .slice u.r.v.p u.r.v.n u.r.v.c, .slice u.r.p u.r.n u.r.c] 35)).drew := ((Below.refl W2.heap.size W2).alloc (Nat.le_refl _) _).drew
        refine hK1 _ _ (fun _ => hb5) ?_
        clear hK1 K1
        refine wpPre_nil ?_
        refine wpTr_e rfl (fun K1 hK1 => ?_)
        have hnews : ∀ j u', (elItem.cells u)[j]? = some u' → ((W2.alloc (.cells #[.int .i64 u.mark, .string u.r.key, .int .i64 u.r.v.kind, .int .i64 u.r.v.int, .string u.r.v.text, .slice u.r.v.p u.r.v.n u.r.v.c, .slice u.r.p u.r.n u.r.c] 35)).drew).cell? ((⟨W2.heap.size, 0, none⟩ : Addr).add j) = some u' := fun j u' hu => by
          show (W2.alloc (.cells #[.int .i64 u.mark, .string u.r.key, .int .i64 u.r.v.kind, .int .i64 u.r.v.int, .string u.r.v.text, .slice u.r.v.p u.r.v.n u.r.v.c, .slice u.r.p u.r.n u.r.c] 35)).cell? _ = _
          rw [Go.WideShapes.add_plain, (Box.new W2 #[.int .i64 u.mark, .string u.r.key, .int .i64 u.r.v.kind, .int .i64 u.r.v.int, .string u.r.v.text, .slice u.r.v.p u.r.v.n u.r.v.c, .slice u.r.p u.r.n u.r.c] 35).cell]
          rw [show 0 + j = j by omega]
          simpa [elItem, IT.cells] using hu
        have HX5 := hid (And.intro (HI2.out.below hb5) (And.intro hb5 hnews))
        clear hnews hb5
        refine step_app rfl (.tmp 34) (.tmp 36) 22 35 i0 _ 7 104 HKd.out rfl 0 (.slice R'.l.p R'.l.n R'.l.c) R'.l.n (rowsE elItem R'.l) rfl HX5.out.1.own ⟨W2.heap.size, 0, none⟩ 1 1 (elItem.cells u) rfl rfl HX5.out.2.2 (elItem.one _) (by omega) (by omega) (Nat.zero_le _) ?_
        intro v6 w6 ho6 hg6 hn6
        obtain ⟨p6, c6, rfl⟩ := ownsRow_slice ho6
        have hbt6 : But (fun j => R'.own = some j) W2 w6 := (But.ofBelow HX5.out.2.1).trans ((But.refl _ _).grown hg6 fun j hj _ => hj)
        have hb6 := HI2.out.box.but hbt6 HI2.out.d
        have y2 : w6.cell? ⟨b, 2, none⟩ = some (.slice R'.l.p R'.l.n R'.l.c) := by rw [hb6.cell]; rfl
        have g2 := hb6.frozen 2
        have hlt6 := hb6.lt
        rw [← rowsE_push elItem R'.l p6 c6 u] at ho6
        have hnear : ∀ g, (Value.slice p6 (R'.l.n + 1) c6).ownBlock = some g → R'.own = some g ∨ W2.heap.size ≤ g := fun g hg => by
          rcases own_near hn6 hg with e | e
          · exact .inl e
          · exact .inr (by have := HX5.out.2.1.size; omega)
        have HN : Hid (RPutS w Z b R l (us ++ [u]) ⟨R'.room, R'.shut, R'.l.push p6 c6 u⟩ (w6.setCell ⟨b, 2, none⟩ (.slice p6 (R'.l.n + 1) c6))) := by
          have hset := RfI.set HI2.out (fun j hj => by have := HZ.out j hj; omega) hbt6 (R'.l.push p6 c6 u) ho6 hnear (by show R'.l.n + 1 ≤ 30000; omega) (fun e => by rw [HP.out.shut, HNo.out.1] at e; cases e) (fun j hj => by
            show IT.In _ _ (if j < R'.l.n then R'.l.item j else u) ∧ IT.Fine (if j < R'.l.n then R'.l.item j else u)
            by_cases hjm : j < R'.l.n
            · rw [if_pos hjm]
              have h7 := HI2.out.it j hjm
              refine ⟨?_, h7.2⟩
              refine ((h7.1.mono (S' := fun g => (¬ R'.C b g ∧ ¬ Z g) ∧ g < W2.heap.size) fun g hg hl => ⟨hg, hl⟩).kept hbt6.size fun g hg hl => hbt6.block g hl fun e => hg.1.1 (.inr e)).mono fun g hg _ => ⟨fun e => hg.1.1 (.inl e), fun e => ?_, hg.1.2⟩
              rcases hnear g e with e2 | e2
              · exact hg.1.1 (.inr e2)
              · omega
            · rw [if_neg hjm]
              refine ⟨?_, HU.out.2.1⟩
              refine (HU.out.2.2.kept hbt6.size fun g hg hl => hbt6.block g hl fun e => by have := HCl.out g (.inr e); omega).mono fun g hg _ => ⟨fun e => by have := HCl.out g (.inl e); omega, fun e => ?_, fun e => by have := HZ.out g e; omega⟩
              rcases hnear g e with e2 | e2
              · have := HCl.out g (.inr e2); omega
              · omega)
          refine ⟨?_, HP.out.shut, RSet.trans HSt2.out hset, by rw [List.length_append, ← HK.out]; exact hlt, fun j y hy => ?_⟩
          · show (R'.l.push p6 c6 u).toL = _
            rw [LT.push_toL, HP.out.q, List.append_assoc]
          · by_cases hj : j < us.length
            · rw [List.getElem?_append_left hj] at hy
              have h8 := HP.out.each j y hy
              rw [List.take_append_of_le_length (Nat.le_of_lt hj)]
              exact h8
            · have hj2 : j = us.length := by
                rcases Nat.lt_or_ge j (us.length + 1) with h | h
                · omega
                · rw [List.getElem?_eq_none (by rw [List.length_append]; simpa using h)] at hy; cases hy
              subst hj2
              rw [List.getElem?_append_right (Nat.le_refl _)] at hy
              simp at hy
              subst hy
              rw [List.take_append_of_le_length (Nat.le_refl _), List.take_length, ← HK.out, ← HXk.out]
              exact ⟨HU.out.1, by rw [← HEr.out, HE0.out]⟩
        clear ho6 hg6 hn6 hb6 HX5 hbt6 hnear
        go_simp
        refine hK1 _ _ (fun h => by cases h) ?_
        clear hK1 K1
        refine wpPre_e rfl rfl (fun K1 hK1 => ?_)
        apply Exists.intro
        refine And.intro (fun wx hx => ?_) ?_
        · go_simp
          try rfl
        go_simp
        refine hK1 _ ?_
        clear hK1 K1
        refine wpPre_e rfl rfl (fun K1 hK1 => ?_)
        apply Exists.intro
        refine And.intro (fun wx hx => ?_) ?_
        · go_simp
          try rfl
        go_simp
        refine hK1 _ ?_
        clear hK1 K1
        refine wpPre_nil ?_
        refine wpTr_e rfl (fun K1 hK1 => ?_)
        go_simp
        refine hK1 _ _ (fun h => by cases h) ?_
        clear hK1 K1
        refine wpPre_nil ?_
        refine wpTr_done ?_
        go_wp2
        go_roundw
        case rel => exact ⟨us ++ [u], _, by rw [List.length_append, ← HK.out]; go_num, HN.out⟩
        case measure => simp [intOf]; omega
      · have he' : (er != 0) = true := by simp [he]
        have HE0 := hid he
        clear he c0 c1 c2 c3 c4 c5 c6
        go_wp2
        refine bodyPost_ret (v := .tuple #[.int .i64 (k : Int), .int .i64 er]) (by simp [results, Try.results46, go_sem]) rfl ⟨us, R', er, by rw [← HK.out], ⟨HP.out.q, HP.out.shut, HSt.out, HP.out.le, HP.out.each⟩, .inr ⟨by rw [← HK.out]; exact hlt, HE0.out, by rw [← HK.out, ← HXk.out]; exact HEr.out⟩⟩
    · obtain rfl : k = l.n := by omega
      go_wp2
      refine bodyPost_ret (v := .tuple #[.int .i64 (l.n : Int), .int .i64 0]) (by simp [results, Try.results46, go_sem]) rfl ⟨us, R', 0, by rw [← HK.out], HP.out, .inl ⟨HK.out.symm, rfl⟩⟩
end Go.Proofs.Ytpldokahoamdpaa
