import Derived.Test.YtdncnnjhfipokaaPack30
import Derived.Test.YtdncnnjhfipokaaKsB
import Derived.Test.YtdncnnjhfipokaaKsC
namespace Go.Proofs.Ytdncnnjhfipokaa
open Go.RowKit
set_option maxRecDepth 8000
theorem Vw.wholeB_ (V : Vw) (N : Nat) (h : ∀ p, p < N → V.cd p = true) : V.wholeB N = V.cp := by
  unfold Vw.wholeB
  rw [List.all_eq_true.2 (fun p hp => h p (List.mem_range.1 hp)), Bool.true_and]
set_option maxHeartbeats 2000000 in
theorem whole_any (N : Nat) (hN : N ≤ 4) (w : World) (vb : Nat) (V : Vw) (hV : VwI w vb V) : Calls Try.prog 23 #[.pointer (some ⟨vb, 0, none⟩), .int .i64 (N : Int)] w fun e w' => e = .returned (.bool (V.wholeB N)) ∧ w' = w := by
  have v1 := hV.box.cell 1
  have HV := hid hV
  simp [Vw.arr] at v1
  clear hV
  go_enter Try.func23, Try.ntmps23
  go_wp2_with fail
  go_loopw [5] (fun x wr => wr = w ∧ ∃ k : Nat, k ≤ N ∧ x = .int .i64 (k : Int) ∧ ∀ p, p < k → V.cd p = true) (fun x _ => N - (intOf x).toNat)
  case atStart => exact ⟨rfl, 0, Nat.zero_le _, rfl, fun p hp => absurd hp (by omega)⟩
  case round =>
    obtain ⟨rfl, k, hk, rfl, hok⟩ := hrel
    have HOk := hid hok
    clear hok
    by_cases hlt : k < N
    · have hlt' : (k : Int) < (N : Int) := by omega
      have hk4 : (k : Int) < 4 := by omega
      have vc := HV.out.cs (i := k) (by omega)
      rcases hc : V.cd k with _ | _
      · rw [hc] at vc
        have HC := hid hc
        clear hc
        go_wp2
        refine bodyPost_ret (v := .bool false) (by simp [results, Try.results23, go_sem]) rfl ⟨?_, rfl⟩
        have hf : (List.range N).all (fun p => V.cd p) = false := by
          rw [List.all_eq_false]
          exact ⟨k, List.mem_range.2 hlt, by rw [HC.out]; decide⟩
        unfold Vw.wholeB
        rw [hf, Bool.false_and]
      · rw [hc] at vc
        have HC := hid hc
        clear hc
        go_wp2
        go_roundw
        case rel => exact ⟨trivial, k + 1, by omega, by go_num, fun p hp => by rcases Nat.lt_or_ge p k with h | h; exact HOk.out p h; rw [show p = k by omega]; exact HC.out⟩
        case measure => simp [intOf]; omega
    · have hlt' : ¬ (k : Int) < (N : Int) := by omega
      have HW := hid (Vw.wholeB_ V N (fun p hp => HOk.out p (by omega)))
      go_wp2
      refine bodyPost_ret (v := .bool V.cp) (by simp [results, Try.results23, go_sem]) rfl ⟨by rw [HW.out], rfl⟩
theorem step_callG {ops : Array Oper} {o : Oper} {a : Act} {w : World} {K : Act → World → Prop} {Q : Exit → Act → World → Prop} {E : Prop}
    (hw : Region.wanted o (yielded ops a.tmps) = true) (f : Nat) (xs : Array Operand) (ts : Array TypeId) (hop : o.op = Op.call { callee := Callee.value (Operand.func f), args := xs, argTypes := ts })
    (F : Func) (hF : Try.prog.funcs[f]? = some F) (hN : (F.name == "runtime.NumGoroutine") = false) (hB : F.body.isNone = false) (vs : Array Value) (hvl : xs.toList.map a.eval = vs.toList) (R : Ending → World → Prop) (hC : Calls Try.prog f vs w R) (hK : ∀ e w', R e w' → ∃ v, e = .returned v ∧ K (a.put o.dst v) w') :
    if Region.wanted o (yielded ops a.tmps) = true then Oper.wp Try.prog o a w K Q else E := by
  rw [if_pos hw]
  have hvs : xs.map a.eval = vs := by
    obtain ⟨xl⟩ := xs
    obtain ⟨vl⟩ := vs
    simp only at hvl
    rw [List.map_toArray, hvl]
  have hrun : (execOp a.eval o).run Try.prog w = .ok (.enter f vs) w := by
    have h1 : ¬ F.name = "runtime.NumGoroutine" := by simpa using hN
    have h2 : ¬ F.body = none := by intro h; rw [h] at hB; cases hB
    simp [execOp, hop, resolve, invoke, hvs, Deferred.ofValue, Act.eval, callFunc, Result.andThen, go_sem, hF, h1, h2]
  unfold Oper.wp
  rw [hrun, Oper.upon_enter]
  refine hC.mono fun e w' h => ?_
  obtain ⟨v, rfl, hk⟩ := hK e w' h
  exact hk
set_option maxHeartbeats 4000000 in
theorem fits_any (N : Nat) (hN : N ≤ 4) (num : Int) (cl : LT VT) (lg : LT (LT RT)) (pd : LT RT) (w : World) (S R : Nat → Prop) (vb : Nat) (V : Vw) (hV : VwI w vb V) (hc : LT.In elCell w S cl) (hp : LT.In elRec w S pd) (hl : LT.In elRecs w S lg) (hln : lg.n = N) (vc : LT.In elCell w R V.cl) (vp : LT.In elRec w R V.pd) (vl : ∀ p, p < N → LT.In elRec w R (V.lg p)) (an : V.num = num) (ac : LT.Alk VT.Alike cl V.cl) (ap : LT.Alk RT.Alike pd V.pd) (al : ∀ p, p < N → LT.Alk RT.Alike (lg.item p) (V.lg p)) :
    Calls Try.prog 24 #[.pointer (some ⟨vb, 0, none⟩), .agg #[.int .i64 num, .slice cl.p cl.n cl.c, .slice lg.p N lg.c, .slice pd.p pd.n pd.c], .int .i64 (N : Int)] w fun e w' => e = .returned (.bool true) ∧ Below w.heap.size w w' := by
  obtain ⟨W0, hW0⟩ : ∃ x, x = w.alloc (.cells #[.int .i64 num, .slice cl.p cl.n cl.c, .slice lg.p N lg.c, .slice pd.p pd.n pd.c] 49) := ⟨_, rfl⟩
  have hB : Below w.heap.size w W0 := by rw [hW0]; exact (Below.refl _ _).alloc (Nat.le_refl _) _
  have hX : Box W0 w.heap.size #[.int .i64 num, .slice cl.p cl.n cl.c, .slice lg.p N lg.c, .slice pd.p pd.n pd.c] 49 := by rw [hW0]; exact Box.new _ _ _
  have HB := hid hB
  have HX := hid hX
  have HV := hid (hV.below hB)
  have HC : Hid (∀ W, Below W0.heap.size W0 W → Calls Try.prog 43 #[.agg #[.int .i64 num, .slice cl.p cl.n cl.c], .agg #[.int .i64 num, .slice V.cl.p V.cl.n V.cl.c]] W fun e w' => e = .returned (.bool true) ∧ Below W.heap.size W w') := fun W hW => yState num cl V.cl W S R ((hc.below hB).below hW) ((vc.below hB).below hW) ac
  have HP : Hid (∀ W, Below W0.heap.size W0 W → Calls Try.prog 44 #[.slice pd.p pd.n pd.c, .slice V.pd.p V.pd.n V.pd.c] W fun e w' => YesNo (RecsAlike pd V.pd) e W w') := fun W hW => yRecords pd V.pd W S R ((hp.below hB).below hW) ((vp.below hB).below hW)
  have HPa : Hid (RecsAlike pd V.pd) := ⟨ap.n, ap.item⟩
  have HL : Hid (∀ W p, p < N → Below W0.heap.size W0 W → Calls Try.prog 44 #[.slice (lg.item p).p (lg.item p).n (lg.item p).c, .slice (V.lg p).p (V.lg p).n (V.lg p).c] W fun e w' => YesNo (RecsAlike (lg.item p) (V.lg p)) e W w') := fun W p hlt hW => yRecords (lg.item p) (V.lg p) W S R (((hl.each p (by omega)).below hB).below hW) (((vl p hlt).below hB).below hW)
  have HLa : Hid (∀ p, p < N → RecsAlike (lg.item p) (V.lg p)) := fun p hlt => ⟨(al p hlt).n, (al p hlt).item⟩
  have HIl := hid (hl.below hB)
  have x0 := hX.cell 0
  have x1 := hX.cell 1
  have x2 := hX.cell 2
  have x3 := hX.cell 3
  have v2 := HV.out.box.cell 2
  have v3 := HV.out.box.cell 3
  have v4 := HV.out.box.cell 4
  simp [Vw.arr] at x0 x1 x2 x3 v2 v3 v4
  rw [an] at v2
  have xl := hX.lt
  have vl0 := HV.out.box.lt
  clear hV hc hp hl vc vp vl ac ap al hB hX an
  go_enter Try.func24, Try.ntmps24
  go_wp2_with fail
  rw [← hW0]
  clear hW0
  refine wp_region_calmE 30 (fun wx => Below W0.heap.size W0 wx) [(0, true), (1, false), (2, true), (3, true), (4, true), (5, false)] (.one 6 true [(7, true), (8, true), (9, true), (10, false), (11, true), (12, true), (13, true), (14, false)] (.one 15 true [(16, true), (17, true), (18, true), (19, true), (20, false), (21, true), (22, true), (23, true), (24, true)] .done)) (by kernel_rfl) (by kernel_rfl) (Below.refl _ _).drew ?_
  refine wpPre_e rfl rfl (fun K1 hK1 => ?_)
  apply Exists.intro
  refine And.intro (fun wx hx => ?_) ?_
  · go_simp
    try rfl
  go_simp
  refine hK1 _ ?_
  clear hK1 K1
  refine wpPre_e rfl rfl (fun K1 hK1 => ?_)
  apply Exists.intro
  refine And.intro (fun wx hx => ?_) ?_
  · have e0 := below_fact hx rfl x0
    have e1 := below_fact hx rfl x1
    have e2 := below_fact hx rfl x2
    have e3 := below_fact hx rfl x3
    have e4 := below_fact hx rfl v2
    have e5 := below_fact hx rfl v3
    have e6 := below_fact hx rfl v4
    go_simp
    try rfl
  go_simp
  refine hK1 _ ?_
  clear hK1 K1
  refine wpPre_e rfl rfl (fun K1 hK1 => ?_)
  apply Exists.intro
  refine And.intro (fun wx hx => ?_) ?_
  · go_simp
    try rfl
  go_simp
  refine hK1 _ ?_
  clear hK1 K1
  refine wpPre_e rfl rfl (fun K1 hK1 => ?_)
  apply Exists.intro
  refine And.intro (fun wx hx => ?_) ?_
  · go_simp
    try rfl
  go_simp
  refine hK1 _ ?_
  clear hK1 K1
  refine wpPre_e rfl rfl (fun K1 hK1 => ?_)
  apply Exists.intro
  refine And.intro (fun wx hx => ?_) ?_
  · go_simp
    try rfl
  go_simp
  refine hK1 _ ?_
  clear hK1 K1
  refine wpPre_e rfl rfl (fun K1 hK1 => ?_)
  apply Exists.intro
  refine And.intro (fun wx hx => ?_) ?_
  · have e0 := below_fact hx rfl x0
    have e1 := below_fact hx rfl x1
    have e2 := below_fact hx rfl x2
    have e3 := below_fact hx rfl x3
    have e4 := below_fact hx rfl v2
    have e5 := below_fact hx rfl v3
    have e6 := below_fact hx rfl v4
    go_simp
    try rfl
  go_simp
  refine hK1 _ ?_
  clear hK1 K1
  refine wpPre_nil ?_
  refine wpTr_e rfl (fun K1 hK1 => ?_)
  refine step_call rfl 43 #[.tmp 9, .tmp 13] _ rfl Try.f43 Try.func43 (by kernel_rfl) rfl #[.agg #[.int .i64 num, .slice cl.p cl.n cl.c], .agg #[.int .i64 num, .slice V.cl.p V.cl.n V.cl.c]] rfl _ (HC.out _ (Below.refl _ _).drew) (fun e w4 h4 => ?_)
  obtain ⟨rfl, hb4⟩ := h4
  refine ⟨_, rfl, ?_⟩
  have hb4' : Below W0.heap.size W0 w4 := (Below.refl W0.heap.size W0).drew.trans hb4
  clear hb4 HC
  go_simp
  refine hK1 _ _ (fun _ => hb4') ?_
  clear hK1 K1
  refine wpPre_e rfl rfl (fun K1 hK1 => ?_)
  apply Exists.intro
  refine And.intro (fun wx hx => ?_) ?_
  · go_simp
    try rfl
  go_simp
  refine hK1 _ ?_
  clear hK1 K1
  refine wpPre_e rfl rfl (fun K1 hK1 => ?_)
  apply Exists.intro
  refine And.intro (fun wx hx => ?_) ?_
  · go_simp
    try rfl
  go_simp
  refine hK1 _ ?_
  clear hK1 K1
  refine wpPre_i rfl (fun K1 hK1 => ?_)
  rw [if_pos (by go_simp)]
  apply Exists.intro
  refine And.intro (fun wx hx => ?_) ?_
  · go_simp
    try rfl
  go_simp
  refine hK1 _ ?_
  clear hK1 K1
  refine wpPre_i rfl (fun K1 hK1 => ?_)
  rw [if_pos (by go_simp)]
  apply Exists.intro
  refine And.intro (fun wx hx => ?_) ?_
  · have e0 := below_fact hx rfl x0
    have e1 := below_fact hx rfl x1
    have e2 := below_fact hx rfl x2
    have e3 := below_fact hx rfl x3
    have e4 := below_fact hx rfl v2
    have e5 := below_fact hx rfl v3
    have e6 := below_fact hx rfl v4
    go_simp
    try rfl
  go_simp
  refine hK1 _ ?_
  clear hK1 K1
  refine wpPre_i rfl (fun K1 hK1 => ?_)
  rw [if_pos (by go_simp)]
  apply Exists.intro
  refine And.intro (fun wx hx => ?_) ?_
  · go_simp
    try rfl
  go_simp
  refine hK1 _ ?_
  clear hK1 K1
  refine wpPre_i rfl (fun K1 hK1 => ?_)
  rw [if_pos (by go_simp)]
  apply Exists.intro
  refine And.intro (fun wx hx => ?_) ?_
  · go_simp
    try rfl
  go_simp
  refine hK1 _ ?_
  clear hK1 K1
  refine wpPre_i rfl (fun K1 hK1 => ?_)
  rw [if_pos (by go_simp)]
  apply Exists.intro
  refine And.intro (fun wx hx => ?_) ?_
  · go_simp
    try rfl
  go_simp
  refine hK1 _ ?_
  clear hK1 K1
  refine wpPre_i rfl (fun K1 hK1 => ?_)
  rw [if_pos (by go_simp)]
  apply Exists.intro
  refine And.intro (fun wx hx => ?_) ?_
  · have e0 := below_fact hx rfl x0
    have e1 := below_fact hx rfl x1
    have e2 := below_fact hx rfl x2
    have e3 := below_fact hx rfl x3
    have e4 := below_fact hx rfl v2
    have e5 := below_fact hx rfl v3
    have e6 := below_fact hx rfl v4
    go_simp
    try rfl
  go_simp
  refine hK1 _ ?_
  clear hK1 K1
  refine wpPre_nil ?_
  refine wpTr_e rfl (fun K1 hK1 => ?_)
  refine step_callG (by go_simp) 44 #[.tmp 18, .tmp 22] _ rfl Try.f44 Try.func44 (by kernel_rfl) rfl #[.slice pd.p pd.n pd.c, .slice V.pd.p V.pd.n V.pd.c] rfl _ (HP.out _ hb4') (fun e w5 h5 => ?_)
  obtain ⟨r5, rfl, hr5, hb5⟩ := h5
  obtain rfl : r5 = true := hr5.2 HPa.out
  refine ⟨_, rfl, ?_⟩
  have hb5' : Below W0.heap.size W0 w5 := hb4'.trans (hb5.mono hb4'.size)
  clear hb5 HP hr5 hb4'
  go_simp
  refine hK1 _ _ (fun _ => hb5') ?_
  clear hK1 K1
  refine wpPre_i rfl (fun K1 hK1 => ?_)
  rw [if_pos (by go_simp)]
  apply Exists.intro
  refine And.intro (fun wx hx => ?_) ?_
  · go_simp
    try rfl
  go_simp
  refine hK1 _ ?_
  clear hK1 K1
  refine wpPre_e rfl rfl (fun K1 hK1 => ?_)
  apply Exists.intro
  refine And.intro (fun wx hx => ?_) ?_
  · go_simp
    try rfl
  go_simp
  refine hK1 _ ?_
  clear hK1 K1
  refine wpPre_e rfl rfl (fun K1 hK1 => ?_)
  apply Exists.intro
  refine And.intro (fun wx hx => ?_) ?_
  · go_simp
    try rfl
  go_simp
  refine hK1 _ ?_
  clear hK1 K1
  refine wpPre_i rfl (fun K1 hK1 => ?_)
  rw [if_pos (by go_simp)]
  apply Exists.intro
  refine And.intro (fun wx hx => ?_) ?_
  · go_simp
    try rfl
  go_simp
  refine hK1 _ ?_
  clear hK1 K1
  refine wpPre_i rfl (fun K1 hK1 => ?_)
  rw [if_pos (by go_simp)]
  apply Exists.intro
  refine And.intro (fun wx hx => ?_) ?_
  · have e0 := below_fact hx rfl x0
    have e1 := below_fact hx rfl x1
    have e2 := below_fact hx rfl x2
    have e3 := below_fact hx rfl x3
    have e4 := below_fact hx rfl v2
    have e5 := below_fact hx rfl v3
    have e6 := below_fact hx rfl v4
    go_simp
    try rfl
  go_simp
  refine hK1 _ ?_
  clear hK1 K1
  refine wpPre_i rfl (fun K1 hK1 => ?_)
  rw [if_pos (by go_simp)]
  apply Exists.intro
  refine And.intro (fun wx hx => ?_) ?_
  · go_simp
    try rfl
  go_simp
  refine hK1 _ ?_
  clear hK1 K1
  refine wpPre_i rfl (fun K1 hK1 => ?_)
  rw [if_pos (by go_simp)]
  apply Exists.intro
  refine And.intro (fun wx hx => ?_) ?_
  · go_simp
    try rfl
  go_simp
  refine hK1 _ ?_
  clear hK1 K1
  refine wpPre_i rfl (fun K1 hK1 => ?_)
  rw [if_pos (by go_simp)]
  apply Exists.intro
  refine And.intro (fun wx hx => ?_) ?_
  · go_simp
    try rfl
  go_simp
  refine hK1 _ ?_
  clear hK1 K1
  refine wpPre_e rfl rfl (fun K1 hK1 => ?_)
  apply Exists.intro
  refine And.intro (fun wx hx => ?_) ?_
  · go_simp
    try rfl
  go_simp
  refine hK1 _ ?_
  clear hK1 K1
  refine wpPre_nil ?_
  refine wpTr_done ?_
  have HB5 := hid hb5'
  clear hb5' x0 x1 x3 v2 v3 v4
  go_wp2_with fail
  go_loopw [7] (fun x wr => ∃ k : Nat, k ≤ N ∧ x = .int .i64 (k : Int) ∧ Below W0.heap.size W0 wr) (fun x _ => N - (intOf x).toNat)
  case atStart => exact ⟨0, Nat.zero_le _, rfl, HB5.out⟩
  case round =>
    obtain ⟨k, hk, rfl, hbr⟩ := hrel
    have HBr := hid hbr
    clear HB5
    by_cases hlt : k < N
    · have hlt' : (k : Int) < (N : Int) := by omega
      have hk4 : (k : Int) < 4 := by omega
      have hV1 := HV.out.below hbr
      have vlc := hV1.cl_ (i := k) (by omega)
      have vl1 := hV1.box.lt
      have x2 := (World.cell?_of_block (a := ⟨w.heap.size, 2, none⟩) (hbr.block _ xl)).trans x2
      have xl1 := (HX.out.below hbr).lt
      obtain ⟨lb, lo, hlp, _, hlb, hat⟩ := (HIl.out.below hbr).at_ (by omega)
      have l0 : wr.cell? ⟨lb, lo + k, none⟩ = some (.slice (lg.item k).p (lg.item k).n (lg.item k).c) := by have := hat k (by omega) 0 _ rfl; simpa [elRecs] using this
      rw [hlp] at x2
      have HLk := hid (HL.out _ k hlt (hbr.trans ((Below.refl wr.heap.size wr).drew.mono hbr.size)))
      have HLa1 := hid (HLa.out k hlt)
      clear hV1 hat hlp hbr
      go_wp2_with fail
      refine wp_region_calmE 30 (fun wx => Below wr.heap.size wr wx) [(0, true), (1, false), (2, true), (3, true), (4, false), (5, true), (6, true), (7, true), (8, true), (9, true), (10, false)] (.one 11 false [(12, true)] .done) (by kernel_rfl) (by kernel_rfl) (Below.refl _ _).drew ?_
      refine wpPre_e rfl rfl (fun K1 hK1 => ?_)
      apply Exists.intro
      refine And.intro (fun wx hx => ?_) ?_
      · go_simp
        try rfl
      go_simp
      refine hK1 _ ?_
      clear hK1 K1
      refine wpPre_e rfl rfl (fun K1 hK1 => ?_)
      apply Exists.intro
      refine And.intro (fun wx hx => ?_) ?_
      · have e0 := below_fact hx rfl x2
        have e1 := below_fact hx rfl l0
        have e2 := below_fact hx rfl vlc
        go_simp
        try rfl
      go_simp
      refine hK1 _ ?_
      clear hK1 K1
      refine wpPre_e rfl rfl (fun K1 hK1 => ?_)
      apply Exists.intro
      refine And.intro (fun wx hx => ?_) ?_
      · go_simp
        try rfl
      go_simp
      refine hK1 _ ?_
      clear hK1 K1
      refine wpPre_e rfl rfl (fun K1 hK1 => ?_)
      apply Exists.intro
      refine And.intro (fun wx hx => ?_) ?_
      · go_simp
        try rfl
      go_simp
      refine hK1 _ ?_
      clear hK1 K1
      refine wpPre_e rfl rfl (fun K1 hK1 => ?_)
      apply Exists.intro
      refine And.intro (fun wx hx => ?_) ?_
      · have e0 := below_fact hx rfl x2
        have e1 := below_fact hx rfl l0
        have e2 := below_fact hx rfl vlc
        go_simp
        try rfl
      go_simp
      refine hK1 _ ?_
      clear hK1 K1
      refine wpPre_e rfl rfl (fun K1 hK1 => ?_)
      apply Exists.intro
      refine And.intro (fun wx hx => ?_) ?_
      · go_simp
        try rfl
      go_simp
      refine hK1 _ ?_
      clear hK1 K1
      refine wpPre_e rfl rfl (fun K1 hK1 => ?_)
      apply Exists.intro
      refine And.intro (fun wx hx => ?_) ?_
      · go_simp
        try rfl
      go_simp
      refine hK1 _ ?_
      clear hK1 K1
      refine wpPre_e rfl rfl (fun K1 hK1 => ?_)
      apply Exists.intro
      refine And.intro (fun wx hx => ?_) ?_
      · go_simp
        try rfl
      go_simp
      refine hK1 _ ?_
      clear hK1 K1
      refine wpPre_e rfl rfl (fun K1 hK1 => ?_)
      apply Exists.intro
      refine And.intro (fun wx hx => ?_) ?_
      · go_simp
        try rfl
      go_simp
      refine hK1 _ ?_
      clear hK1 K1
      refine wpPre_e rfl rfl (fun K1 hK1 => ?_)
      apply Exists.intro
      refine And.intro (fun wx hx => ?_) ?_
      · go_simp
        try rfl
      go_simp
      refine hK1 _ ?_
      clear hK1 K1
      refine wpPre_e rfl rfl (fun K1 hK1 => ?_)
      apply Exists.intro
      refine And.intro (fun wx hx => ?_) ?_
      · have e0 := below_fact hx rfl x2
        have e1 := below_fact hx rfl l0
        have e2 := below_fact hx rfl vlc
        go_simp
        try rfl
      go_simp
      refine hK1 _ ?_
      clear hK1 K1
      refine wpPre_nil ?_
      refine wpTr_e rfl (fun K1 hK1 => ?_)
      refine step_call rfl 44 #[.tmp 46, .tmp 52] _ rfl Try.f44 Try.func44 (by kernel_rfl) rfl #[.slice (lg.item k).p (lg.item k).n (lg.item k).c, .slice (V.lg k).p (V.lg k).n (V.lg k).c] rfl _ HLk.out (fun e w4 h4 => ?_)
      obtain ⟨r4, rfl, hr4, hb4⟩ := h4
      obtain rfl : r4 = true := hr4.2 HLa1.out
      refine ⟨_, rfl, ?_⟩
      have HB4 : Hid (Below W0.heap.size W0 w4) := HBr.out.trans (((Below.refl wr.heap.size wr).drew.trans hb4).mono HBr.out.size)
      clear hb4 hr4 HLk HLa1
      go_simp
      refine hK1 _ _ (fun h => by cases h) ?_
      clear hK1 K1
      refine wpPre_e rfl rfl (fun K1 hK1 => ?_)
      apply Exists.intro
      refine And.intro (fun wx hx => ?_) ?_
      · go_simp
        try rfl
      go_simp
      refine hK1 _ ?_
      clear hK1 K1
      refine wpPre_nil ?_
      refine wpTr_done ?_
      go_wp2
      go_roundw
      case rel => exact ⟨k + 1, by omega, by go_num, HB4.out⟩
      case measure => simp [intOf]; omega
    · have hlt' : ¬ (k : Int) < (N : Int) := by omega
      clear hbr
      go_wp2
      go_ret
      exact ⟨rfl, HB.out.trans (HBr.out.mono HB.out.size)⟩
end Go.Proofs.Ytdncnnjhfipokaa
