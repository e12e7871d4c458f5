import Derived.Test.YtldkepokcbjlpaaPack19
namespace Go.Proofs.Ytldkepokcbjlpaa
open Go.RowKit Go.Conc
set_option maxRecDepth 60000
def Ps.hand (P : Ps) (i : Nat) : Ps := { P with pl := fun j => if j = i then 1 else P.pl j }
theorem Ps.hand_arr (P : Ps) {i : Nat} (hi : i < 12) : P.arr.setIfInBounds (5 + i) (.int .u8 1) = (P.hand i).arr := by
  apply Array.toList_inj.1
  simp only [Array.toList_setIfInBounds]
  rcases (by omega : i = 0 ∨ i = 1 ∨ i = 2 ∨ i = 3 ∨ i = 4 ∨ i = 5 ∨ i = 6 ∨ i = 7 ∨ i = 8 ∨ i = 9 ∨ i = 10 ∨ i = 11) with rfl | rfl | rfl | rfl | rfl | rfl | rfl | rfl | rfl | rfl | rfl | rfl <;> rfl
theorem PsI.handed {W : World} {b : Nat} {P : Ps} (h : PsI W b P) {i : Nat} (hi : i < 12) : QSet W b P (W.setCell ⟨b, 5 + i, none⟩ (.int .u8 1)) (P.hand i) := by
  have hbt : But (fun k => k = b) W (W.setCell ⟨b, 5 + i, none⟩ (.int .u8 1)) := (But.one W b).setAt (5 + i) _
  have hbx := h.box.set (5 + i) (.int .u8 1)
  rw [P.hand_arr hi] at hbx
  refine ⟨⟨hbx, ?_, h.ne, h.st, h.t0, h.t1, h.f0, h.f1, h.n1⟩, ⟨hbt.os, hbt.tape, hbt.output, hbt.size, fun k hl hn => hbt.block k hl (fun e => hn (.inl e))⟩, fun k hk => .inl hk⟩
  exact ownsRow_keep h.own (fun k hk hl => hbt.block k hl (fun e => h.ne (by rw [← e]; exact hk)))
structure HandQ (id task : Int) (x : PtT) (w : World) (b : Nat) (P : Ps) (L : List Value) (e : Ending) (w' : World) (P' : Ps) (L' : List Value) : Prop where
  s : QS w b P w' P' L'
  r : e = .returned (.int .i64 (P.refE id task))
  n : ¬ P.refE id task = 0 → P' = P ∧ L' = L
  y : P.refE id task = 0 → ∃ i : Nat, ∃ u, task = (i : Int) ∧ i < 12 ∧ P' = P.hand i ∧ L' = L ++ [letV i u] ∧ PtAlk x u ∧ PtIn w' (fun k => w.heap.size ≤ k) u
def HandP (id task : Int) (x : PtT) (w : World) (b : Nat) (P : Ps) (L : List Value) (e : Ending) (w' : World) : Prop := ∃ P' L', HandQ id task x w b P L e w' P' L'
theorem HandP.ret {id task : Int} {x : PtT} {w : World} {b : Nat} {P : Ps} {L : List Value} {w' : World} : ¬ HandP id task x w b P L .outgrown w' := by
  rintro ⟨P', L', h⟩
  cases h.r
set_option maxRecDepth 100000 in
set_option maxHeartbeats 8000000 in
theorem hand_any (id task : Int) (x : PtT) (S : Nat → Prop) (L : List Value) (w : World) (b : Nat) (P : Ps) (hI : PsI w b P) (hc : Inb w P L) (hin : PtIn w S x) (hsz : PtSz x) (hroom : P.refE id task = 0 → L.length < P.tasks.toNat) : Calls Try.prog 13 #[.pointer (some ⟨b, 0, none⟩), .int .i64 id, .int .i64 task, .agg #[.int .i64 x.num, .slice x.cl.p x.cl.n x.cl.c, .slice x.lg.p x.lg.n x.lg.c, .slice x.pd.p x.pd.n x.pd.c]] w fun e w' => HandP id task x w b P L e w' := by
  obtain ⟨W, hW⟩ : ∃ W, W = w.alloc (.cells #[.int .i64 x.num, .slice x.cl.p x.cl.n x.cl.c, .slice x.lg.p x.lg.n x.lg.c, .slice x.pd.p x.pd.n x.pd.c] 39) := ⟨_, rfl⟩
  have hB : Below w.heap.size w W := by rw [hW]; exact (Below.refl _ _).alloc (Nat.le_refl _) _
  have hX : Box W w.heap.size #[.int .i64 x.num, .slice x.cl.p x.cl.n x.cl.c, .slice x.lg.p x.lg.n x.lg.c, .slice x.pd.p x.pd.n x.pd.c] 39 := by rw [hW]; exact Box.new _ _ _
  have HR := hid (refusal_any id task W b P (hI.below hB))
  have HI := hid hI
  have HC := hid hc
  have HB := hid hB
  have HW := hid hW
  by_cases h0 : P.refE id task = 0
  rotate_left
  · have h0' : (P.refE id task != 0) = true := by simp [h0]
    have HH := hid h0
    clear hX hI hB hc hin hsz hroom hW h0
    go_enter Try.func13, Try.ntmps13
    go_wp2_with (go_at_call 31; rw [← HW.out]; refine HR.out.mono ?_; rintro e w1 ⟨rfl, hb1⟩)
    refine bodyPost_ret (v := .int .i64 (P.refE id task)) (by simp [results, Try.results13, go_sem]) rfl ?_
    exact ⟨P, L, (QSet.same HI.out (HB.out.trans (hb1.mono HB.out.size))).qs HI.out HC.out rfl rfl, rfl, fun _ => ⟨rfl, rfl⟩, fun h => absurd h HH.out⟩
  have HH := hid h0
  have hrm := hroom h0
  have htk : 0 ≤ task ∧ task < P.tasks := by
    unfold Ps.refE at h0
    split at h0
    · cases h0
    · omega
  obtain ⟨i, rfl⟩ : ∃ i : Nat, task = (i : Int) := ⟨task.toNat, by omega⟩
  have hi : i < 12 := by have := hI.t1; omega
  have hi12 : (i : Int) < 12 := by omega
  have HIn : Hid (PtIn w (fun k => S k ∧ k < w.heap.size) x) := hin.mono fun k hk hl => ⟨hk, hl⟩
  have HSz := hid hsz
  have HX := hid hX
  have hcl := hc.lt
  have bw := hI.box.lt
  clear hX hI hB hc hin hsz hroom hW h0
  refine calls_of_loneTo (fun cs => ?_) (fun w' h => HandP.ret h)
  have e : Frame.enter Try.prog 13 #[.pointer (some ⟨b, 0, none⟩), .int .i64 id, .int .i64 (i : Int), .agg #[.int .i64 x.num, .slice x.cl.p x.cl.n x.cl.c, .slice x.lg.p x.lg.n x.lg.c, .slice x.pd.p x.pd.n x.pd.c]] .normal = (base 13).at ⟨#[.pointer (some ⟨b, 0, none⟩), .int .i64 id, .int .i64 (i : Int), .agg #[.int .i64 x.num, .slice x.cl.p x.cl.n x.cl.c, .slice x.lg.p x.lg.n x.lg.c, .slice x.pd.p x.pd.n x.pd.c], undef, undef, undef, undef, undef, undef, undef, undef, undef, undef, undef, undef, undef, undef, undef, undef, undef, undef, undef, undef, undef, undef, undef, undef, undef, undef, undef, undef, undef, undef], []⟩ [.code (Try.f13.body.getD .skip)] := by
    simp [Frame.enter, Frame.at, Try.func13, base, Try.f13]
    try rfl
  rw [e]
  clear e
  refine LoneTo.goes (n := 40) ?_
  simp only [Try.f13, Option.getD_some]
  s_c stepG_seq
  s_reg
  s_op
  rw [← HW.out]
  s_op
  s_c stepG_region_end
  s_c stepG_seq
  s_c stepG_seq
  s_reg
  s_op
  s_op
  s_op
  s_stop
  refine LoneTo_call #[.pointer (some ⟨b, 0, none⟩), .int .i64 id, .int .i64 (i : Int)] HR.out rfl rfl (by decide) rfl Try.func31 (by kernel_rfl) rfl (by simp [Act.eval]) ?_ ?_
  · rintro e w' ⟨rfl, _⟩
    exact ⟨_, rfl⟩
  rintro v w1 ⟨hv, hb1⟩
  cases hv
  rw [HH.out]
  have hBw : Below w.heap.size w w1 := HB.out.trans (hb1.mono HB.out.size)
  have hI1 := HI.out.below hBw
  have c4 := hI1.c4
  have bl1 := hI1.box.lt
  have hX1 := HX.out.below hb1
  have x0 := hX1.cell 0
  have x1 := hX1.cell 1
  have x2 := hX1.cell 2
  have x3 := hX1.cell 3
  have xl := hX1.lt
  simp at x0 x1 x2 x3
  have HF := hid (freshP x w1 _ (HIn.out.kept hBw.size (fun k hk _ => hBw.block k hk.2)) HSz.out)
  have HBw := hid hBw
  clear hb1 hBw hX1 hI1 HR
  rw [Frame.finish_at]
  walk_nrm
  refine LoneTo.goes (n := 40) ?_
  s_op
  s_c stepG_region_end
  s_c stepG_seq
  s_reg
  s_op
  s_op
  s_c stepG_region_end
  s_cond false
  s_c stepG_skip
  s_c stepG_seq
  s_c stepG_seq
  s_reg
  s_op
  s_op
  s_op
  s_op
  s_c stepG_region_end
  s_reg
  s_op
  s_op
  s_stop
  refine LoneTo_call #[.agg #[.int .i64 x.num, .slice x.cl.p x.cl.n x.cl.c, .slice x.lg.p x.lg.n x.lg.c, .slice x.pd.p x.pd.n x.pd.c]] HF.out rfl rfl (by decide) rfl Try.func32 (by kernel_rfl) rfl (by simp [Act.eval]) ?_ ?_
  · rintro e w' ⟨u, rfl, _⟩
    exact ⟨_, rfl⟩
  rintro v w2 ⟨u, hv, hal, hu, hb2⟩
  cases hv
  have hBw2 : Below w.heap.size w w2 := HBw.out.trans (hb2.mono HBw.out.size)
  have hI2 := HI.out.below hBw2
  have hC2 : Inb w2 P L := HC.out.to rfl rfl (hBw2.block _ hcl)
  have hs2 := hBw2.size
  obtain ⟨s, r, hch⟩ := hC2.ch
  obtain ⟨V, hV⟩ : ∃ V, V = w2.setChan P.ch P.tasks.toNat (L ++ [letV i u]).toArray false (s + 1) r false := ⟨_, rfl⟩
  have hbV : But (fun k => k = P.ch) w2 V := by rw [hV]; exact But.setChan _ _ _ _ _ _ _ _
  have hIV := hI2.chd hC2 hbV
  have hCV : Inb V P (L ++ [letV i u]) := ⟨s + 1, r, by rw [hV]; exact heap_setChan _ _ _ _ _ _ _ _ (by omega)⟩
  have cp := hIV.cp hi
  have fp := hIV.box.frozen (5 + i)
  have blV := hIV.box.lt
  have hQV : QS w b P V P (L ++ [letV i u]) := ⟨hIV, hCV, rfl, ⟨hbV.os.trans hBw2.os, hbV.tape.trans hBw2.tape, hbV.output.trans hBw2.output, Nat.le_trans hs2 hbV.size, fun k hl hk => (hbV.block k (by omega) (fun e => hk (.inr e))).trans (hBw2.block k hl)⟩, fun _ hk => .inl hk⟩
  have hQH := hIV.handed hi
  have HQ := hid (hQV.trans hcl (hQH.qs hIV hCV rfl rfl))
  have HU : Hid (PtIn (V.setCell ⟨b, 5 + i, none⟩ (.int .u8 1)) (fun k => w.heap.size ≤ k) u) := by
    have h1 : PtIn V (fun k => w.heap.size ≤ k) u := (hu.mono (S' := fun k => w.heap.size ≤ k) (fun k hk _ => Nat.le_trans HBw.out.size hk)).kept hbV.size (fun k hk hl => hbV.block k hl (by omega))
    exact h1.kept ((But.one V b).setAt (5 + i) _).size (fun k hk hl => ((But.one V b).setAt (5 + i) _).block k hl (by omega))
  have HAl := hid hal
  have Hch := hid hch
  have HV := hid hV
  clear hal hu hb2 hBw2 hI2 hC2 hch hV hbV hIV hCV hQV hQH HF x0 x1 x2 x3 c4
  rw [Frame.finish_at]
  walk_nrm
  refine LoneTo.goes (n := 40) ?_
  s_op
  s_c stepG_region_end
  s_c stepG_seq
  s_reg
  s_stop
  refine LoneTo.step (step_lone_sel_send_room (k := 0) (c := P.ch) (v := (.agg #[.int .i64 (i : Int), .int .i64 u.num, .slice u.cl.p u.cl.n u.cl.c, .slice u.lg.p u.lg.n u.lg.c, .slice u.pd.p u.pd.n u.pd.c])) (z := (.agg #[.int .i64 0, .int .i64 0, .slice none 0 0, .slice none 0 0, .slice none 0 0])) (cap := P.tasks.toNat) (buf := L.toArray) (s := s) (r := r) (tm := false) (stepG_comm (cases := #[scase P.ch (.agg #[.int .i64 (i : Int), .int .i64 u.num, .slice u.cl.p u.cl.n u.cl.c, .slice u.lg.p u.lg.n u.lg.c, .slice u.pd.p u.pd.n u.pd.c]) (.agg #[.int .i64 0, .int .i64 0, .slice none 0 0, .slice none 0 0, .slice none 0 0])]) (blocking := false) (shape := .select) (w' := w2) rfl rfl (by decide) (by simp [go_sem, execOp, scase, Act.eval])) rfl (fun m c' hm hc' => by (rcases m with _ | m; exact absurd rfl hm; simp at hc')) Hch.out (by simpa using hrm)) ?_
  rw [show commResult #[scase P.ch (.agg #[.int .i64 (i : Int), .int .i64 u.num, .slice u.cl.p u.cl.n u.cl.c, .slice u.lg.p u.lg.n u.lg.c, .slice u.pd.p u.pd.n u.pd.c]) (.agg #[.int .i64 0, .int .i64 0, .slice none 0 0, .slice none 0 0, .slice none 0 0])] .select (0 : Nat) undef false = .tuple #[goInt 0, .bool false] by simp [commResult, scase], show L.toArray.push (.agg #[.int .i64 (i : Int), .int .i64 u.num, .slice u.cl.p u.cl.n u.cl.c, .slice u.lg.p u.lg.n u.lg.c, .slice u.pd.p u.pd.n u.pd.c]) = (L ++ [letV i u]).toArray by simp [letV]]
  rw [← HV.out]
  rw [Frame.finish_at]
  walk_nrm
  refine LoneTo.goes (n := 60) ?_
  s_op
  s_op
  s_c stepG_region_end
  s_c stepG_block
  s_cond true
  s_c stepG_seq
  s_reg
  s_op
  s_op
  s_op
  s_op
  s_op
  s_op
  s_op
  s_c stepG_region_end
  s_c stepG_seq
  s_reg
  s_op
  s_c stepG_region_end
  s_c stepG_ret'
  s_stop
  refine LoneTo.done ⟨.returned (.int .i64 0), _, rfl, ⟨P.hand i, L ++ [letV i u], HQ.out, by rw [HH.out], fun h => absurd HH.out h, fun _ => ⟨i, u, rfl, hi, rfl, rfl, HAl.out, HU.out⟩⟩, rfl, rfl, rfl, rfl, _, Try.func13, by simp [results, Try.f13, Frame.at, go_sem]⟩
end Go.Proofs.Ytldkepokcbjlpaa
