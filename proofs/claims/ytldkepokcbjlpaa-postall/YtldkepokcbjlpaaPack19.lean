import Derived.Test.YtldkepokcbjlpaaPpM
namespace Go.Proofs.Ytldkepokcbjlpaa
open Go.RowKit Go.Conc
set_option maxRecDepth 60000
theorem LoneTo_call {P : Program} {Q : Goroutine → World → Prop} {b : Frame} {a : Act} {k : List Item} {cs : List Frame} {w : World} {ops : Array Oper} {i : Nat} {rest : List Nat} {o : Oper} {f : FuncId} {fn : Func} {c : Code} {args : Array Operand} {ats : Array TypeId} {R : Ending → World → Prop}
    (vals : Array Value) (hc : Calls P f vals w R) (ho : ops[i]? = some o) (hw : Region.wanted o (yielded ops a.tmps) = true) (hk : b.kind ≠ .early) (hop : o.op = .call { callee := .value (.func f), args, argTypes := ats })
    (hf : P.funcs[f]? = some fn) (hname : (fn.name == "runtime.NumGoroutine") = false) (hb : fn.body = some c) (hv : args.map a.eval = vals) (hno : ∀ e w', R e w' → ∃ v, e = .returned v)
    (h : ∀ v w', R (.returned v) w' → LoneTo P Q (G ((b.at a (.inRegion ops (i :: rest) :: k)).finish v) cs) w') : LoneTo P Q (G (b.at a (.inRegion ops (i :: rest) :: k)) cs) w := by
  have hb' : fn.body.isNone = false := by rw [hb]; rfl
  have hst := stepG_enter (main := true) (cs := cs) (k := k) (rest := rest) (w := w) ho hw hk (run_call_body hop hf hname hb')
  rw [hv] at hst
  refine LoneTo.step (step_solo_go rfl hst) ?_
  obtain ⟨e, w', fr, hR, hcm, hfn, hl⟩ := hc (b.at a (.inRegion ops (i :: rest) :: k) :: cs)
  obtain ⟨v, rfl⟩ := hno e w' hR
  obtain ⟨g2, w2, hs, hq⟩ := h v w' hR
  exact ⟨g2, w2, Steps.trans hcm (Steps.head (step_leave_returned hl) hs), hq⟩
end Go.Proofs.Ytldkepokcbjlpaa

namespace Go.Proofs.Ytldkepokcbjlpaa
open Go.RowKit Go.Conc
set_option maxRecDepth 60000
def letV (t : Nat) (x : PtT) : Value := .agg #[.int .i64 (t : Int), .int .i64 x.num, .slice x.cl.p x.cl.n x.cl.c, .slice x.lg.p x.lg.n x.lg.c, .slice x.pd.p x.pd.n x.pd.c]
structure PickQ (w : World) (b : Nat) (P : Ps) (t : Nat) (x : PtT) (L : List Value) (e : Ending) (w' : World) (P' : Ps) : Prop where
  s : QS w b P w' P' L
  n : ¬ (P.gath t x).wants = [] → P' = P.gath t x ∧ e = .returned (.tuple #[.int .i64 1, .agg #[.int .i64 0, .int .u32 0, .slice none 0 0]])
  y : (P.gath t x).wants = [] → P' = (P.gath t x).fin 2 ∧ ∃ p c, ∃ T : Nat, P.tasks = (T : Int) ∧ e = .returned (.tuple #[.int .i64 2, .agg #[.int .i64 P.under, .int .u32 P.sum, .slice p T c]]) ∧ w'.ownsRow w.heap.size 39 4 (.slice p T c) T ((P.gath t x).rows T)
def PickP (w : World) (b : Nat) (P : Ps) (t : Nat) (x : PtT) (L : List Value) (e : Ending) (w' : World) : Prop := ∃ P', PickQ w b P t x L e w' P'
theorem GathQ.form {w : World} {b : Nat} {P : Ps} {t : Nat} {x : PtT} {e : Ending} {w' : World} {P' : Ps} (h : GathQ w b P t x e w' P') : (∃ n i s p k c, e = .returned (.tuple #[.int .i64 n, .agg #[.int .i64 i, .int .u32 s, .slice p k c]])) ∧ P'.ch = P.ch ∧ P'.tasks = P.tasks := by
  by_cases hw : (P.gath t x).wants = []
  · obtain ⟨rfl, p, c, T, hT, rfl, _⟩ := h.y hw
    exact ⟨⟨_, _, _, _, _, _, rfl⟩, rfl, rfl⟩
  · obtain ⟨rfl, rfl⟩ := h.n hw
    exact ⟨⟨_, _, _, _, _, _, rfl⟩, rfl, rfl⟩
theorem PickP.ret {w : World} {b : Nat} {P : Ps} {t : Nat} {x : PtT} {L : List Value} {w' : World} : ¬ PickP w b P t x L .outgrown w' := by
  rintro ⟨P', h⟩
  by_cases hw : (P.gath t x).wants = []
  · obtain ⟨_, _, _, _, _, h2, _⟩ := h.y hw
    cases h2
  · have := (h.n hw).2
    cases this
theorem QS.outer {w w1 w2 : World} {b r : Nat} {P P1 : Ps} {L : List Value} (h : QS w b P w1 P1 L) (hbt : But (fun k => k = r) w1 w2) (hr : w.heap.size ≤ r) (hn : ¬ P1.C b r) (hc : P.ch < w.heap.size) : QS w b P w2 P1 L :=
  ⟨h.inv.kept fun k hk hl => hbt.block k hl (fun e => hn (by rw [← e]; exact hk)), h.inb.to rfl rfl (hbt.block _ h.inb.lt (by rw [h.chE]; omega)), h.chE, ⟨hbt.os.trans h.but.os, hbt.tape.trans h.but.tape, hbt.output.trans h.but.output, Nat.le_trans h.but.size hbt.size, fun k hl hk => (hbt.block k (Nat.lt_of_lt_of_le hl h.but.size) (by omega)).trans (h.but.block k hl hk)⟩, h.cs⟩
set_option maxRecDepth 100000 in
set_option maxHeartbeats 8000000 in
theorem pick_some (t : Nat) (ht : t < 12) (x : PtT) (L : List Value) (w : World) (b : Nat) (P : Ps) (hI : PsI w b P) (hc : Inb w P (letV t x :: L)) (hn : 0 < P.sts.n) : Calls Try.prog 14 #[.pointer (some ⟨b, 0, none⟩)] w fun e w' => PickP w b P t x L e w' := by
  obtain ⟨W, hW⟩ : ∃ W, W = w.alloc (.cells #[.int .i64 0, .int .u32 0, .slice none 0 0] 48) := ⟨_, rfl⟩
  have hB : Below w.heap.size w W := by rw [hW]; exact (Below.refl _ _).alloc (Nat.le_refl _) _
  have hsW : W.heap.size = w.heap.size + 1 := by rw [hW]; simp
  have hX : Box W w.heap.size #[.int .i64 0, .int .u32 0, .slice none 0 0] 48 := by rw [hW]; exact Box.new _ _ _
  have hIW := hI.below hB
  have hcl := hc.lt
  have hcW : Inb W P (letV t x :: L) := hc.to rfl rfl (hB.block _ hcl)
  have c4 := hIW.c4
  have bl := hIW.box.lt
  have bw := hI.box.lt
  obtain ⟨s, r, hch⟩ := hcW.ch
  obtain ⟨V, hV⟩ : ∃ V, V = W.setChan P.ch P.tasks.toNat L.toArray false s (r + 1) false := ⟨_, rfl⟩
  have hbV : But (fun k => k = P.ch) W V := by rw [hV]; exact But.setChan _ _ _ _ _ _ _ _
  have hsV : V.heap.size = w.heap.size + 1 := by rw [hV, size_setChan]; exact hsW
  have hcV : Inb V P L := ⟨s, r + 1, by rw [hV]; exact heap_setChan _ _ _ _ _ _ _ _ (by omega)⟩
  have hIV := hIW.chd hcW hbV
  have hXV : Box V w.heap.size #[.int .i64 0, .int .u32 0, .slice none 0 0] 48 := hX.kept (hbV.block _ hX.lt (by omega))
  obtain ⟨V2, hV2⟩ : ∃ X, X = V.alloc (.cells #[.int .i64 0, .int .i64 0, .slice none 0 0, .slice none 0 0, .slice none 0 0] 91) := ⟨_, rfl⟩
  have hb2 : Below V.heap.size V V2 := by rw [hV2]; exact (Below.refl _ _).alloc (Nat.le_refl _) _
  have hs2 : V2.heap.size = w.heap.size + 2 := by rw [hV2]; simp [hsV]
  have hY2 : Box V2 (w.heap.size + 1) #[.int .i64 0, .int .i64 0, .slice none 0 0, .slice none 0 0, .slice none 0 0] 91 := by rw [← hsV, hV2]; exact Box.new _ _ _
  have y0 := hY2.cell 0
  have y1 := hY2.cell 1
  have y2 := hY2.cell 2
  have y3 := hY2.cell 3
  have y4 := hY2.cell 4
  have q0 := hY2.frozen 0
  have q1 := hY2.frozen 1
  have q2 := hY2.frozen 2
  have q3 := hY2.frozen 3
  have q4 := hY2.frozen 4
  have yl := hY2.lt
  simp at y0 y1 y2 y3 y4
  obtain ⟨V3, hV3⟩ : ∃ X, X = (((((V2.setCell ⟨w.heap.size + 1, 0, none⟩ (.int .i64 (t : Int))).setCell ⟨w.heap.size + 1, 1, none⟩ (.int .i64 x.num)).setCell ⟨w.heap.size + 1, 2, none⟩ (.slice x.cl.p x.cl.n x.cl.c)).setCell ⟨w.heap.size + 1, 3, none⟩ (.slice x.lg.p x.lg.n x.lg.c)).setCell ⟨w.heap.size + 1, 4, none⟩ (.slice x.pd.p x.pd.n x.pd.c)) := ⟨_, rfl⟩
  have hb3 : But (fun k => k = w.heap.size + 1) V2 V3 := by rw [hV3]; exact (((((But.one V2 (w.heap.size + 1)).setAt 0 _).setAt 1 _).setAt 2 _).setAt 3 _).setAt 4 _
  have hY3 : Box V3 (w.heap.size + 1) #[.int .i64 (t : Int), .int .i64 x.num, .slice x.cl.p x.cl.n x.cl.c, .slice x.lg.p x.lg.n x.lg.c, .slice x.pd.p x.pd.n x.pd.c] 91 := by rw [hV3]; exact ((((hY2.set 0 _).set 1 _).set 2 _).set 3 _).set 4 _
  have m0 := hY3.cell 0
  have m1 := hY3.cell 1
  have m2 := hY3.cell 2
  have m3 := hY3.cell 3
  have m4 := hY3.cell 4
  have yl3 := hY3.lt
  simp at m0 m1 m2 m3 m4
  have hs3 := hb3.size
  have hI3 : PsI V3 b P := (hIV.below hb2).kept fun k hk hl => hb3.block k hl (fun e => by have := hI.lt hk; omega)
  have hc3 : Inb V3 P L := (hcV.to rfl rfl (hb2.block _ (by omega))).to rfl rfl (hb3.block _ (by omega) (by omega))
  have HX3 : Hid (Box V3 w.heap.size #[.int .i64 0, .int .u32 0, .slice none 0 0] 48) := (hXV.below hb2).kept (hb3.block _ (by omega) (by omega))
  have HQ3 : Hid (QS w b P V3 P L) := ⟨hI3, hc3, rfl, ⟨hb3.os.trans (hb2.os.trans (hbV.os.trans hB.os)), hb3.tape.trans (hb2.tape.trans (hbV.tape.trans hB.tape)), hb3.output.trans (hb2.output.trans (hbV.output.trans hB.output)), by omega, fun k hl hk => (hb3.block k (by omega) (by omega)).trans ((hb2.block k (by omega)).trans ((hbV.block k (by omega) (fun e => hk (.inr e))).trans (hB.block k hl)))⟩, fun _ hk => .inl hk⟩
  have HGa := hid (gather_any t ht x V3 b P hI3 hn)
  have Hch := hid hch
  have HW := hid hW
  have HV := hid hV
  have HV2 := hid hV2
  have HV3 := hid hV3
  have HI := hid hI
  clear hX hI hB hc hcW hW hV hV2 hV3 hIW hIV hcV hXV hbV hb2 hb3 hY2 hY3 hI3 hc3 hch
  refine calls_of_loneTo (fun cs => ?_) (fun w' h => PickP.ret h)
  have e : Frame.enter Try.prog 14 #[.pointer (some ⟨b, 0, none⟩)] .normal = (base 14).at ⟨#[.pointer (some ⟨b, 0, none⟩), undef, undef, undef, undef, undef, undef, undef, undef, undef, undef, undef, undef, undef, undef, undef, undef, undef, undef], []⟩ [.code (Try.f14.body.getD .skip)] := by
    simp [Frame.enter, Frame.at, Try.func14, base, Try.f14]
    try rfl
  rw [e]
  clear e
  refine LoneTo.goes (n := 40) ?_
  simp only [Try.f14, Option.getD_some]
  s_c stepG_seq
  s_reg
  s_op
  s_op
  rw [← HW.out]
  s_c stepG_region_end
  s_c stepG_seq
  s_reg
  s_op
  s_op
  s_op
  s_op
  s_c stepG_region_end
  s_c stepG_seq
  s_reg
  s_stop
  refine LoneTo.step (step_lone_sel_recv_buf (k := 0) (c := P.ch) (z := (.agg #[.int .i64 0, .int .i64 0, .slice none 0 0, .slice none 0 0, .slice none 0 0])) (cap := P.tasks.toNat) (buf := (letV t x :: L).toArray) (closed := false) (s := s) (r := r) (tm := false) (stepG_comm (cases := #[rcase P.ch (.agg #[.int .i64 0, .int .i64 0, .slice none 0 0, .slice none 0 0, .slice none 0 0])]) (blocking := false) (shape := .select) (w' := W) rfl rfl (by decide) (by simp [go_sem, execOp, rcase, Act.eval])) rfl (fun m c' hm hc' => by (rcases m with _ | m; exact absurd rfl hm; simp at hc')) Hch.out (by simp)) ?_
  rw [show commResult #[rcase P.ch (.agg #[.int .i64 0, .int .i64 0, .slice none 0 0, .slice none 0 0, .slice none 0 0])] .select (0 : Nat) ((letV t x :: L).toArray.getD 0 undef) true = .tuple #[goInt 0, .bool true, .agg #[.int .i64 (t : Int), .int .i64 x.num, .slice x.cl.p x.cl.n x.cl.c, .slice x.lg.p x.lg.n x.lg.c, .slice x.pd.p x.pd.n x.pd.c]] by simp [commResult, rcase, letV], show (letV t x :: L).toArray.extract 1 (letV t x :: L).toArray.size = L.toArray by simp]
  rw [← HV.out]
  rw [Frame.finish_at]
  walk_nrm
  refine LoneTo.goes (n := 60) ?_
  s_op
  s_op
  s_c stepG_region_end
  s_c stepG_block
  s_cond true
  s_c stepG_seq
  s_reg
  s_op
  s_op
  rw [← HV2.out]
  s_op
  rw [← HV3.out]
  s_c stepG_region_end
  s_c stepG_seq
  s_reg
  s_op
  s_op
  s_stop
  refine LoneTo_call #[.pointer (some ⟨b, 0, none⟩), .agg #[.int .i64 (t : Int), .int .i64 x.num, .slice x.cl.p x.cl.n x.cl.c, .slice x.lg.p x.lg.n x.lg.c, .slice x.pd.p x.pd.n x.pd.c]] HGa.out rfl rfl (by decide) rfl Try.func33 (by kernel_rfl) rfl (by simp [Act.eval]) ?_ ?_
  · rintro e w' ⟨P', h⟩
    obtain ⟨⟨n, i, s, p, k, c, rfl⟩, _⟩ := h.form
    exact ⟨_, rfl⟩
  rintro v w6 ⟨P', h⟩
  obtain ⟨⟨n, i, s, p, k, c, hv⟩, he1, he2⟩ := h.form
  cases hv
  have HG6 := hid h
  have hX6 : Box w6 w.heap.size #[.int .i64 0, .int .u32 0, .slice none 0 0] 48 := HX3.out.kept (h.s.but.block _ HX3.out.lt (fun hk => by have := HI.out.lt hk; omega))
  have HX6 := hid hX6
  have z0 := hX6.cell 0
  have z1 := hX6.cell 1
  have z2 := hX6.cell 2
  have f0 := hX6.frozen 0
  have f1 := hX6.frozen 1
  have f2 := hX6.frozen 2
  have xl := hX6.lt
  simp at z0 z1 z2
  clear h hX6 HGa
  rw [Frame.finish_at]
  walk_nrm
  refine LoneTo.goes (n := 40) ?_
  s_op
  s_op
  s_op
  s_op
  s_c stepG_region_end
  s_c stepG_ret'
  s_stop
  have hbt := (((But.one w6 w.heap.size).setAt 0 (.int .i64 i)).setAt 1 (.int .u32 s)).setAt 2 (.slice p k c)
  refine LoneTo.done ⟨.returned (.tuple #[.int .i64 n, .agg #[.int .i64 i, .int .u32 s, .slice p k c]]), _, rfl, ⟨P', ?_⟩, rfl, rfl, rfl, rfl, _, Try.func14, by simp [results, Try.f14, Frame.at, go_sem, z0, z1, z2]⟩
  have hnc : ¬ P'.C b w.heap.size := fun hk => by
    rcases HG6.out.s.cs _ hk with h1 | h1
    · have := HI.out.lt h1; omega
    · omega
  refine ⟨(HQ3.out.trans hcl (HG6.out.s.qs HQ3.out.inv HQ3.out.inb he1 he2)).outer hbt (Nat.le_refl _) hnc hcl, HG6.out.n, fun hw => ?_⟩
  obtain ⟨h1, p', c', T, hT, h2, h3⟩ := HG6.out.y hw
  exact ⟨h1, p', c', T, hT, h2, own_low (ownsRow_keep h3 (fun j hj hl => hbt.block j hl (fun e => by have := (h3.lt j hj).1; omega))) (by omega)⟩
end Go.Proofs.Ytldkepokcbjlpaa
