import Derived.Test.YtdncnnjhfipokabPack18
import Derived.Test.YtdncnnjhfipokabKdD
namespace Go.Proofs.Ytdncnnjhfipokab
open Go.RowKit
set_option maxRecDepth 8000
def Rb.heldB (R : Rb) (p : Int) : Bool := (R.mode == 1) && (decide (R.cp < 0) && decide (0 ≤ R.cl p))
set_option maxHeartbeats 4000000 in
theorem rheld_any (p : Int) (w : World) (rb : Nat) (R : Rb) (hI : RbI w rb R) (hn : R.ls.n ≤ 100000) (hp : 0 ≤ R.ports) (hp4 : R.ports ≤ 4) : Calls Try.prog 30 #[.pointer (some ⟨rb, 0, none⟩), .int .i64 p] w fun e w' => e = .returned (.bool (R.heldB p)) ∧ Below w.heap.size w w' := by
  have HI := hid hI
  have c0 := hI.box.cell 0
  have hbl := hI.box.lt
  simp [Rb.arr] at c0
  have HCp := hid (copied_any w rb R hI hn hp hp4)
  clear hI
  by_cases hm : R.mode = 1
  rotate_left
  · have hm' : (R.mode == 1) = false := by simp [hm]
    have HE : Hid (R.heldB p = false) := by unfold Hid Rb.heldB; rw [hm']; rfl
    clear hm HCp
    go_enter Try.func30, Try.ntmps30
    go_wp2
    refine bodyPost_ret (v := .bool (false)) (by simp [results, Try.results30, go_sem]) rfl ?_
    exact ⟨by rw [HE.out], Below.refl _ _⟩
  rw [hm] at c0
  rcases R.cp_range with hc | hc
  rotate_left
  · have HE : Hid (R.heldB p = false) := by unfold Hid Rb.heldB; rw [decide_eq_false (by omega : ¬ R.cp < 0)]; simp
    have hc' : ¬ R.cp < 0 := by omega
    clear hm
    go_enter Try.func30, Try.ntmps30
    go_wp2_with (go_at_call 41; refine HCp.out.mono ?_; rintro e w1 ⟨rfl, hb1⟩)
    refine bodyPost_ret (v := .bool (false)) (by simp [results, Try.results30, go_sem]) rfl ?_
    exact ⟨by rw [HE.out], hb1⟩
  have HE : Hid (R.heldB p = decide (0 ≤ R.cl p)) := by unfold Hid Rb.heldB; rw [hm, decide_eq_true (by omega : R.cp < 0)]; rfl
  have HC := hid hc
  clear hm hc
  go_enter Try.func30, Try.ntmps30
  rcases R.cl_range p with hl | hl
  · go_wp2_with (first | (go_at_call 41; refine HCp.out.mono ?_; rintro e w1 ⟨rfl, hb1⟩; rw [HC.out]; have HB1 := hid hb1; clear hb1) | (go_at_call 40; refine (closed_any p _ rb R (HI.out.below HB1.out) hn).mono ?_; rintro e w2 ⟨rfl, hb2⟩; rw [hl]))
    refine bodyPost_ret (v := .bool (false)) (by simp [results, Try.results30, go_sem]) rfl ?_
    exact ⟨by rw [HE.out, decide_eq_false (by omega : ¬ 0 ≤ R.cl p)], HB1.out.trans (hb2.mono HB1.out.size)⟩
  · have hl0 : 0 ≤ R.cl p := hl.1
    clear hl
    go_wp2_with (first | (go_at_call 41; refine HCp.out.mono ?_; rintro e w1 ⟨rfl, hb1⟩; rw [HC.out]; have HB1 := hid hb1; clear hb1) | (go_at_call 40; refine (closed_any p _ rb R (HI.out.below HB1.out) hn).mono ?_; rintro e w2 ⟨rfl, hb2⟩))
    refine bodyPost_ret (v := .bool (true)) (by simp [results, Try.results30, go_sem]) rfl ?_
    exact ⟨by rw [HE.out, decide_eq_true hl0], HB1.out.trans (hb2.mono HB1.out.size)⟩
set_option maxHeartbeats 1000000 in
theorem rnow_any (w : World) (rb : Nat) (R : Rb) (hI : RbI w rb R) : Calls Try.prog 32 #[.pointer (some ⟨rb, 0, none⟩)] w fun e w' => e = .returned (.int .i64 R.last) ∧ w' = w := by
  have c3 := hI.box.cell 3
  simp [Rb.arr] at c3
  clear hI
  go_enter Try.func32, Try.ntmps32
  go_wp2
  refine bodyPost_ret (v := .int .i64 (R.last)) (by simp [results, Try.results32, go_sem]) rfl ?_
  exact ⟨rfl, rfl⟩
def Rb.tookE (R : Rb) (p : Int) : Int := if p < 0 ∨ R.ports ≤ p then 132 else if R.heldB p = true then 134 else 0
def tdT (p : Int) (u : RT) : TD := ⟨p, 0, u, nilL (fun _ => rt0), 0, nilL (fun _ => .nil), nilL (fun _ => rt0)⟩
structure RTookQ (p : Int) (r : RT) (w : World) (rb : Nat) (R : Rb) (w' : World) (R' : Rb) : Prop where
  s : RSet w rb R w' R'
  n : (¬ R.tookE p = 0 ∨ R.ls.n = 0) → R' = R
  y : R.tookE p = 0 → 0 < R.ls.n → ∃ u pp c, RT.Alike r u ∧ TD.In w' (fun k => w.heap.size ≤ k ∧ ¬ R'.C rb k) (tdT p u) ∧ R' = R.push pp c (tdT p u)
def RTookP (p : Int) (r : RT) (w : World) (rb : Nat) (R : Rb) (e : Ending) (w' : World) : Prop := ∃ R', e = .returned (.int .i64 (R.tookE p)) ∧ RTookQ p r w rb R w' R'
theorem kindTd : ∃ i, Kind 74 90 i (.agg #[.int .i64 0, .int .i64 0, .string ⟨#[]⟩, .int .i64 0, .int .i64 0, .string ⟨#[]⟩, .slice none 0 0, .slice none 0 0, .slice none 0 0, .int .i64 0, .slice none 0 0, .slice none 0 0]) 12 192 := by
  obtain ⟨i0, hi, hz0, hz1, hz2⟩ := info_parts (show (Try.prog.info? 90).map (fun i => (i.zero, i.size, i.bytes)) = some (some (.agg #[.int .i64 0, .int .i64 0, .string ⟨#[]⟩, .int .i64 0, .int .i64 0, .string ⟨#[]⟩, .slice none 0 0, .slice none 0 0, .slice none 0 0, .int .i64 0, .slice none 0 0, .slice none 0 0]), 12, 192) by kernel_rfl)
  exact ⟨i0, Try.underlying74, hi, hz0, hz1, hz2, rfl, by decide⟩
set_option maxHeartbeats 4000000 in
theorem rtook_any (p : Int) (r : RT) (w : World) (S : Nat → Prop) (rb : Nat) (R : Rb) (hI : RbI w rb R) (hin : RT.In w S r) (hr : r.size ≤ 10000) (hn : R.ls.n ≤ 10000) (hp : 0 ≤ R.ports) (hp4 : R.ports ≤ 4) :
    Calls Try.prog 19 #[.pointer (some ⟨rb, 0, none⟩), .int .i64 p, .agg #[.string r.key, .int .i64 r.v.kind, .int .i64 r.v.int, .string r.v.text, .slice r.v.p r.v.n r.v.c, .slice r.p r.n r.c]] w fun e w' => RTookP p r w rb R e w' := by
  obtain ⟨W, hW⟩ : ∃ W, W = w.alloc (.cells #[.string r.key, .int .i64 r.v.kind, .int .i64 r.v.int, .string r.v.text, .slice r.v.p r.v.n r.v.c, .slice r.p r.n r.c] 38) := ⟨_, rfl⟩
  have hB : Below w.heap.size w W := by rw [hW]; exact (Below.refl _ _).alloc (Nat.le_refl _) _
  have hX : Box W w.heap.size #[.string r.key, .int .i64 r.v.kind, .int .i64 r.v.int, .string r.v.text, .slice r.v.p r.v.n r.v.c, .slice r.p r.n r.c] 38 := by rw [hW]; exact Box.new _ _ _
  have HB := hid hB
  have hIW := hI.below hB
  have HI := hid hI
  have HIW := hid hIW
  have HX := hid hX
  have HG := hid (rheld_any p W rb R hIW (by omega) hp hp4)
  have HF : Hid (∀ V, Below W.heap.size W V → Calls Try.prog 35 #[.agg #[.string r.key, .int .i64 r.v.kind, .int .i64 r.v.int, .string r.v.text, .slice r.v.p r.v.n r.v.c, .slice r.p r.n r.c]] V fun e w' => ∃ u : RT, e = .returned (.agg #[.string u.key, .int .i64 u.v.kind, .int .i64 u.v.int, .string u.v.text, .slice u.v.p u.v.n u.v.c, .slice u.p u.n u.c]) ∧ RT.Alike r u ∧ RT.In w' (fun b => V.heap.size ≤ b) u ∧ Below V.heap.size V w') := fun V hV =>
    r_copyR r V (fun k => S k ∧ k < w.heap.size) ((hin.mono fun k hk hl => ⟨hk, hl⟩).kept (Nat.le_trans hB.size hV.size) (fun k hk _ => (hV.block k (by have := hB.size; omega)).trans (hB.block k hk.2))) hr
  have c1 := hIW.box.cell 1
  have hbl := hIW.box.lt
  simp [Rb.arr] at c1
  clear hX hin hI hIW hB
  by_cases h0 : p < 0
  · have HE : Hid (R.tookE p = 132) := by unfold Hid Rb.tookE; rw [if_pos (.inl h0)]
    go_enter Try.func19, Try.ntmps19
    go_wp2
    refine bodyPost_ret (v := .int .i64 (132)) (by simp [results, Try.results19, go_sem]) rfl ?_
    exact ⟨R, by rw [HE.out], RSet.same HI.out (by rw [← hW]; exact HB.out), fun _ => rfl, fun h => by rw [HE.out] at h; cases h⟩
  by_cases h1 : R.ports ≤ p
  · have HE : Hid (R.tookE p = 132) := by unfold Hid Rb.tookE; rw [if_pos (.inr h1)]
    go_enter Try.func19, Try.ntmps19
    go_wp2_with (rw [← hW]; clear hW)
    refine bodyPost_ret (v := .int .i64 (132)) (by simp [results, Try.results19, go_sem]) rfl ?_
    exact ⟨R, by rw [HE.out], RSet.same HI.out HB.out, fun _ => rfl, fun h => by rw [HE.out] at h; cases h⟩
  rcases hh : R.heldB p with _ | _
  rotate_left
  · have HE : Hid (R.tookE p = 134) := by unfold Hid Rb.tookE; rw [if_neg (by omega), if_pos hh]
    have HH := hid hh
    clear hh
    go_enter Try.func19, Try.ntmps19
    go_wp2_with (first | (rw [← hW]; clear hW) | (go_at_call 30; refine HG.out.mono ?_; rintro e w1 ⟨rfl, hb1⟩; rw [HH.out]))
    refine bodyPost_ret (v := .int .i64 (134)) (by simp [results, Try.results19, go_sem]) rfl ?_
    exact ⟨R, by rw [HE.out], RSet.same HI.out (HB.out.trans (hb1.mono HB.out.size)), fun _ => rfl, fun h => by rw [HE.out] at h; cases h⟩
  have HE : Hid (R.tookE p = 0) := by unfold Hid Rb.tookE; rw [if_neg (by omega), if_neg (by rw [hh]; decide)]
  have HH := hid hh
  clear hh
  by_cases hz : R.ls.n = 0
  · have HZ := hid hz
    clear hz
    go_enter Try.func19, Try.ntmps19
    go_wp2_with (first | (rw [← hW]; clear hW) | (go_at_call 30; refine HG.out.mono ?_; rintro e w1 ⟨rfl, hb1⟩; rw [HH.out]; have c4 := (HIW.out.below hb1).box.cell 4; have hbl1 := (HIW.out.below hb1).box.lt; simp [Rb.arr] at c4; rw [HZ.out] at c4))
    refine bodyPost_ret (v := .int .i64 (0)) (by simp [results, Try.results19, go_sem]) rfl ?_
    exact ⟨R, by rw [HE.out], RSet.same HI.out (HB.out.trans (hb1.mono HB.out.size)), fun _ => rfl, fun _ h => by rw [HZ.out] at h; cases h⟩
  have hz' : 0 < R.ls.n := by omega
  obtain ⟨i0, Kd⟩ := kindTd
  have HKd := hid Kd
  clear Kd hz
  go_enter Try.func19, Try.ntmps19
  go_wp2_with (first | (rw [← hW]; clear hW) | (go_at_call 30; refine HG.out.mono ?_; rintro e w1 ⟨rfl, hb1⟩; rw [HH.out]; have c4 := (HIW.out.below hb1).box.cell 4; have hbl1 := (HIW.out.below hb1).box.lt; simp [Rb.arr] at c4))
  have HB1 := hid hb1
  have HI1 := hid (HIW.out.below hb1)
  have hX1 := HX.out.below hb1
  have r0 := hX1.cell 0
  have r1 := hX1.cell 1
  have r2 := hX1.cell 2
  have r3 := hX1.cell 3
  have r4 := hX1.cell 4
  have r5 := hX1.cell 5
  have xl1 := hX1.lt
  simp at r0 r1 r2 r3 r4 r5
  clear hX1 hb1 HG
  refine wp_region_calmE 30 (fun wx => Below w1.heap.size w1 wx) [(0, true), (1, true), (2, true), (3, true), (4, false), (5, true), (6, false)] (.one 7 true [(8, true)] (.one 9 true [] (.one 10 false [(11, true), (12, true)] (.one 13 false [] .done)))) (by kernel_rfl) (by kernel_rfl) (Below.refl _ _).drew ?_
  refine wpPre_e rfl rfl (fun K1 hK1 => ?_)
  apply Exists.intro
  refine And.intro (fun wx hx => ?_) ?_
  · go_simp
    try rfl
  go_simp
  refine hK1 _ ?_
  clear hK1 K1
  refine wpPre_e rfl rfl (fun K1 hK1 => ?_)
  apply Exists.intro
  refine And.intro (fun wx hx => ?_) ?_
  · go_simp
    try rfl
  go_simp
  refine hK1 _ ?_
  clear hK1 K1
  refine wpPre_e rfl rfl (fun K1 hK1 => ?_)
  apply Exists.intro
  refine And.intro (fun wx hx => ?_) ?_
  · go_simp
    try rfl
  go_simp
  refine hK1 _ ?_
  clear hK1 K1
  refine wpPre_e rfl rfl (fun K1 hK1 => ?_)
  apply Exists.intro
  refine And.intro (fun wx hx => ?_) ?_
  · go_simp
    try rfl
  go_simp
  refine hK1 _ ?_
  clear hK1 K1
  refine wpPre_e rfl rfl (fun K1 hK1 => ?_)
  apply Exists.intro
  refine And.intro (fun wx hx => ?_) ?_
  · have e0 := below_fact hx rfl c4
    have e1 := below_fact hx rfl r0
    have e2 := below_fact hx rfl r1
    have e3 := below_fact hx rfl r2
    have e4 := below_fact hx rfl r3
    have e5 := below_fact hx rfl r4
    have e6 := below_fact hx rfl r5
    go_simp
    try rfl
  go_simp
  refine hK1 _ ?_
  clear hK1 K1
  refine wpPre_e rfl rfl (fun K1 hK1 => ?_)
  apply Exists.intro
  refine And.intro (fun wx hx => ?_) ?_
  · go_simp
    try rfl
  go_simp
  refine hK1 _ ?_
  clear hK1 K1
  refine wpPre_e rfl rfl (fun K1 hK1 => ?_)
  apply Exists.intro
  refine And.intro (fun wx hx => ?_) ?_
  · have e0 := below_fact hx rfl c4
    have e1 := below_fact hx rfl r0
    have e2 := below_fact hx rfl r1
    have e3 := below_fact hx rfl r2
    have e4 := below_fact hx rfl r3
    have e5 := below_fact hx rfl r4
    have e6 := below_fact hx rfl r5
    go_simp
    try rfl
  go_simp
  refine hK1 _ ?_
  clear hK1 K1
  refine wpPre_nil ?_
  refine wpTr_e rfl (fun K1 hK1 => ?_)
  refine step_call rfl 35 #[.tmp 34] _ rfl Try.f35 Try.func35 (by kernel_rfl) rfl #[.agg #[.string r.key, .int .i64 r.v.kind, .int .i64 r.v.int, .string r.v.text, .slice r.v.p r.v.n r.v.c, .slice r.p r.n r.c]] rfl _ (HF.out _ (HB1.out.trans ((Below.refl _ _).drew.mono HB1.out.size))) (fun e w4 h4 => ?_)
  obtain ⟨u, rfl, hal4, hin4, hb4⟩ := h4
  refine ⟨_, rfl, ?_⟩
  have hb4' : Below w1.heap.size w1 w4 := (Below.refl w1.heap.size w1).drew.trans hb4
  have hin4' : RT.In w4 (fun b => w1.heap.size ≤ b) u := hin4
  have HU := hid (And.intro hal4 (And.intro hin4' hb4'))
  clear hal4 hin4 hin4' hb4 HF
  go_simp
  refine hK1 _ _ (fun _ => hb4') ?_
  clear hK1 K1
  refine wpPre_e rfl rfl (fun K1 hK1 => ?_)
  apply Exists.intro
  refine And.intro (fun wx hx => ?_) ?_
  · go_simp
    try rfl
  go_simp
  refine hK1 _ ?_
  clear hK1 K1
  refine wpPre_nil ?_
  refine wpTr_e rfl (fun K1 hK1 => ?_)
  go_simp
  have hb5 : Below w1.heap.size w1 (w4.alloc (.cells #[.int .i64 p, .int .i64 0, .string u.key, .int .i64 u.v.kind, .int .i64 u.v.int, .string u.v.text, .slice u.v.p u.v.n u.v.c, .slice u.p u.n u.c, .slice none 0 0, .int .i64 0, .slice none 0 0, .slice none 0 0] 90)) := hb4'.alloc hb4'.size _
  refine hK1 _ _ (fun _ => hb5) ?_
  clear hK1 K1
  refine wpPre_nil ?_
  refine wpTr_e rfl (fun K1 hK1 => ?_)
  have hI5 := HI1.out.below hb5
  have hnews : ∀ j u', (elTd.cells (tdT p u))[j]? = some u' → (w4.alloc (.cells #[.int .i64 p, .int .i64 0, .string u.key, .int .i64 u.v.kind, .int .i64 u.v.int, .string u.v.text, .slice u.v.p u.v.n u.v.c, .slice u.p u.n u.c, .slice none 0 0, .int .i64 0, .slice none 0 0, .slice none 0 0] 90)).cell? ((⟨w4.heap.size, 0, none⟩ : Addr).add j) = some u' := fun j u' hu => by
    rw [Go.WideShapes.add_plain, (Box.new w4 #[.int .i64 p, .int .i64 0, .string u.key, .int .i64 u.v.kind, .int .i64 u.v.int, .string u.v.text, .slice u.v.p u.v.n u.v.c, .slice u.p u.n u.c, .slice none 0 0, .int .i64 0, .slice none 0 0, .slice none 0 0] 90).cell]
    rw [show 0 + j = j by omega]
    simpa [elTd, TD.cells, tdT, nilL] using hu
  have HX5 := hid (And.intro hI5 (And.intro hb5 hnews))
  clear hI5 hnews
  refine step_app rfl (.tmp 32) (.tmp 37) 74 90 i0 _ 12 192 HKd.out rfl 0 (.slice R.ls.p R.ls.n R.ls.c) R.ls.n (rowsT R.ls) rfl HX5.out.1.own ⟨w4.heap.size, 0, none⟩ 1 1 (elTd.cells (tdT p u)) rfl rfl HX5.out.2.2 (elTd.one (tdT p u)) (by omega) (by omega) (Nat.zero_le _) ?_
  intro v6 w6 ho6 hg6 hn6
  obtain ⟨p6, c6, rfl⟩ := ownsRow_slice ho6
  have hb6 : Box w6 rb R.arr 76 := HX5.out.1.box.kept (hg6.block rb HX5.out.1.box.lt (fun e => HI.out.ne e.symm))
  have y1 := hb6.cell 4
  have g1 := hb6.frozen 4
  have hlt6 := hb6.lt
  simp [Rb.arr] at y1
  have HS6 := hid (HI.out.pushed (w1 := w4.alloc (.cells #[.int .i64 p, .int .i64 0, .string u.key, .int .i64 u.v.kind, .int .i64 u.v.int, .string u.v.text, .slice u.v.p u.v.n u.v.c, .slice u.p u.n u.c, .slice none 0 0, .int .i64 0, .slice none 0 0, .slice none 0 0] 90)) (w2 := w6) (p := p6) (c := c6) (t := tdT p u) (HB.out.trans ((HB1.out.trans (HX5.out.2.1.mono HB1.out.size)).mono HB.out.size)) ho6 hg6 hn6)
  have hTu : TD.In (w4.alloc (.cells #[.int .i64 p, .int .i64 0, .string u.key, .int .i64 u.v.kind, .int .i64 u.v.int, .string u.v.text, .slice u.v.p u.v.n u.v.c, .slice u.p u.n u.c, .slice none 0 0, .int .i64 0, .slice none 0 0, .slice none 0 0] 90)) (fun k => w.heap.size ≤ k) (tdT p u) := ⟨fun _ => (HU.out.2.1.below ((Below.refl _ _).alloc (Nat.le_refl _) _)).mono (fun k hk _ => by have := HB.out.size; have := HB1.out.size; omega), LT.In.none_ _ _ _ _ _ _ (Nat.zero_le _) (fun _ => rfl), LT.In.none_ _ _ _ _ _ _ (Nat.zero_le _) (fun _ => rfl), LT.In.none_ _ _ _ _ _ _ (Nat.zero_le _) (fun _ => rfl)⟩
  have HR6 := hid (TD.apart (p := p6) (c := c6) HI.out hTu hg6 hn6)
  clear ho6 hg6 hn6 hb6 HX5 hTu
  go_simp
  refine hK1 _ _ (fun h => by cases h) ?_
  clear hK1 K1
  refine wpPre_e rfl rfl (fun K1 hK1 => ?_)
  apply Exists.intro
  refine And.intro (fun wx hx => ?_) ?_
  · go_simp
    try rfl
  go_simp
  refine hK1 _ ?_
  clear hK1 K1
  refine wpPre_e rfl rfl (fun K1 hK1 => ?_)
  apply Exists.intro
  refine And.intro (fun wx hx => ?_) ?_
  · go_simp
    try rfl
  go_simp
  refine hK1 _ ?_
  clear hK1 K1
  refine wpPre_nil ?_
  refine wpTr_e rfl (fun K1 hK1 => ?_)
  go_simp
  refine hK1 _ _ (fun h => by cases h) ?_
  clear hK1 K1
  refine wpPre_nil ?_
  refine wpTr_done ?_
  go_wp2
  refine bodyPost_ret (v := .int .i64 (0)) (by simp [results, Try.results19, go_sem]) rfl ?_
  exact ⟨R.push p6 c6 (tdT p u), by rw [HE.out], HS6.out, fun h => by rcases h with h | h; exact absurd HE.out h; omega, fun _ _ => ⟨u, p6, c6, HU.out.1, HR6.out, rfl⟩⟩
end Go.Proofs.Ytdncnnjhfipokab
