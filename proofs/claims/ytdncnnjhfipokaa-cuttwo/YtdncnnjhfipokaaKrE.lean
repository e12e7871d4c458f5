import Derived.Test.YtdncnnjhfipokaaKrD
import Derived.Deep.DeepCutAuto
namespace Go.Proofs.Ytdncnnjhfipokaa
open Go.RowKit
set_option maxRecDepth 8000
def Rb.refE (R : Rb) (p id : Int) : Int := if p < 0 ∨ R.ports ≤ p then 132 else if id < 1 ∨ 9999 < id then 133 else if R.heldB p = true then 134 else 0
def Rb.skip (R : Rb) (p id : Int) : Prop := id < R.last ∨ (id = R.last ∧ 0 ≤ R.cl p)
def Rb.begin (R : Rb) (id : Int) : Rb := { R with last := id, ls := nilL R.ls.item, hd := false }
def Rb.base (R : Rb) (id : Int) : Rb := if R.last < id then R.begin id else R
def tdM (p id : Int) (a : LT RT) (num : Int) (l : LT VT) (q : LT RT) : TD := ⟨p, id, rt0, a, num, l, q⟩
structure RMarkQ (p id : Int) (a : LT RT) (num : Int) (l : LT VT) (q : LT RT) (w : World) (rb : Nat) (R : Rb) (w' : World) (R' : Rb) (r : Bool) : Prop where
  s : RSet w rb R w' R'
  n : (¬ R.refE p id = 0 ∨ R.skip p id) → R' = R ∧ r = false
  y : R.refE p id = 0 → ¬ R.skip p id → ∃ a1 l1 q1 pp c, LT.Alk RT.Alike a a1 ∧ LT.Alk VT.Alike l l1 ∧ LT.Alk RT.Alike q q1 ∧ TD.In w' (fun k => w.heap.size ≤ k ∧ ¬ R'.C rb k) (tdM p id a1 num l1 q1) ∧ R' = (R.base id).push pp c (tdM p id a1 num l1 q1) ∧ r = (decide ((R.base id).cp < 0) && decide (0 ≤ R'.cp))
def RMarkP (p id : Int) (a : LT RT) (num : Int) (l : LT VT) (q : LT RT) (w : World) (rb : Nat) (R : Rb) (e : Ending) (w' : World) : Prop := ∃ R' r, e = .returned (.tuple #[.bool r, .int .i64 (R.refE p id)]) ∧ RMarkQ p id a num l q w rb R w' R' r
set_option maxHeartbeats 8000000 in
theorem rmark_any (p id : Int) (a : LT RT) (num : Int) (l : LT VT) (q : LT RT) (w : World) (S : Nat → Prop) (rb : Nat) (R : Rb) (hI : RbI w rb R) (hS : ∀ k, S k → ¬ R.C rb k) (ha : LT.In elRec w S a) (hl : LT.In elCell w S l) (hq : LT.In elRec w S q) (sa : SzR a) (sl : SzC l) (sq : SzR q) (hn : R.ls.n ≤ 10000) (hp : 0 ≤ R.ports) (hp4 : R.ports ≤ 4) :
    Calls Try.prog 47 #[.pointer (some ⟨rb, 0, none⟩), .int .i64 p, .int .i64 id, .slice a.p a.n a.c, .agg #[.int .i64 num, .slice l.p l.n l.c], .slice q.p q.n q.c] w fun e w' => RMarkP p id a num l q w rb R e w' := by
  obtain ⟨W, hW⟩ : ∃ W, W = w.alloc (.cells #[.int .i64 num, .slice l.p l.n l.c] 40) := ⟨_, rfl⟩
  have hB : Below w.heap.size w W := by rw [hW]; exact (Below.refl _ _).alloc (Nat.le_refl _) _
  have hX : Box W w.heap.size #[.int .i64 num, .slice l.p l.n l.c] 40 := by rw [hW]; exact Box.new _ _ _
  have HB := hid hB
  have hIW := hI.below hB
  have HI := hid hI
  have HIW := hid hIW
  have HX := hid hX
  have HG := hid (rheld_any p W rb R hIW (by omega) hp hp4)
  have HIn := hid (And.intro ha (And.intro hl hq))
  have HSz := hid (And.intro sa (And.intro sl sq))
  have HSc := hid hS
  have c1 := hIW.box.cell 1
  have hbl := hIW.box.lt
  have hsb : w.heap.size ≠ rb := by have := hI.box.lt; omega
  simp [Rb.arr] at c1
  obtain ⟨i0, Kd⟩ := kindTd
  have HKd := hid Kd
  clear hX hI hIW hB Kd ha hl hq sa sl sq hS
  by_cases h0 : p < 0
  · have HE : Hid (R.refE p id = 132) := by unfold Hid Rb.refE; rw [if_pos (.inl h0)]
    go_enter Try.func47, Try.ntmps47
    go_wp2_with (rw [← hW]; clear hW)
    refine bodyPost_ret (v := .tuple #[.bool false, .int .i64 132]) (by simp [results, Try.results47, go_sem]) rfl ?_
    exact ⟨R, false, by rw [HE.out], RSet.same HI.out HB.out, fun _ => ⟨rfl, rfl⟩, fun h => by rw [HE.out] at h; cases h⟩
  by_cases h1 : R.ports ≤ p
  · have HE : Hid (R.refE p id = 132) := by unfold Hid Rb.refE; rw [if_pos (.inr h1)]
    go_enter Try.func47, Try.ntmps47
    go_wp2_with (rw [← hW]; clear hW)
    refine bodyPost_ret (v := .tuple #[.bool false, .int .i64 132]) (by simp [results, Try.results47, go_sem]) rfl ?_
    exact ⟨R, false, by rw [HE.out], RSet.same HI.out HB.out, fun _ => ⟨rfl, rfl⟩, fun h => by rw [HE.out] at h; cases h⟩
  have hnp : ¬ (p < 0 ∨ R.ports ≤ p) := by omega
  by_cases h2 : id < 1
  · have HE : Hid (R.refE p id = 133) := by unfold Hid Rb.refE; rw [if_neg hnp, if_pos (.inl h2)]
    go_enter Try.func47, Try.ntmps47
    go_wp2_with (rw [← hW]; clear hW)
    refine bodyPost_ret (v := .tuple #[.bool false, .int .i64 133]) (by simp [results, Try.results47, go_sem]) rfl ?_
    exact ⟨R, false, by rw [HE.out], RSet.same HI.out HB.out, fun _ => ⟨rfl, rfl⟩, fun h => by rw [HE.out] at h; cases h⟩
  by_cases h3 : 9999 < id
  · have HE : Hid (R.refE p id = 133) := by unfold Hid Rb.refE; rw [if_neg hnp, if_pos (.inr h3)]
    go_enter Try.func47, Try.ntmps47
    go_wp2_with (rw [← hW]; clear hW)
    refine bodyPost_ret (v := .tuple #[.bool false, .int .i64 133]) (by simp [results, Try.results47, go_sem]) rfl ?_
    exact ⟨R, false, by rw [HE.out], RSet.same HI.out HB.out, fun _ => ⟨rfl, rfl⟩, fun h => by rw [HE.out] at h; cases h⟩
  have hni : ¬ (id < 1 ∨ 9999 < id) := by omega
  rcases hh : R.heldB p with _ | _
  rotate_left
  · have HE : Hid (R.refE p id = 134) := by unfold Hid Rb.refE; rw [if_neg hnp, if_neg hni, if_pos hh]
    have HH := hid hh
    clear hh hnp hni
    go_enter Try.func47, Try.ntmps47
    go_wp2_with (first | (rw [← hW]; clear hW) | (go_at_call 50; refine HG.out.mono ?_; rintro e w1 ⟨rfl, hb1⟩; rw [HH.out]))
    refine bodyPost_ret (v := .tuple #[.bool false, .int .i64 134]) (by simp [results, Try.results47, go_sem]) rfl ?_
    exact ⟨R, false, by rw [HE.out], RSet.same HI.out (HB.out.trans (hb1.mono HB.out.size)), fun _ => ⟨rfl, rfl⟩, fun h => by rw [HE.out] at h; cases h⟩
  have HE : Hid (R.refE p id = 0) := by unfold Hid Rb.refE; rw [if_neg hnp, if_neg hni, if_neg (by rw [hh]; decide)]
  have hidz : ¬ id = 0 := by omega
  have HH := hid hh
  clear hh hnp hni
  by_cases h4 : id < R.last
  · have HSk : Hid (R.skip p id) := .inl h4
    go_enter Try.func47, Try.ntmps47
    go_wp2_with (first | (rw [← hW]; clear hW) | (go_at_call 50; refine HG.out.mono ?_; rintro e w1 ⟨rfl, hb1⟩; rw [HH.out]; have hI1 := HIW.out.below hb1; have c3 := hI1.box.cell 3; have hbl1 := hI1.box.lt; simp [Rb.arr] at c3))
    refine bodyPost_ret (v := .tuple #[.bool false, .int .i64 0]) (by simp [results, Try.results47, go_sem]) rfl ?_
    exact ⟨R, false, by rw [HE.out], RSet.same HI.out (HB.out.trans (hb1.mono HB.out.size)), fun _ => ⟨rfl, rfl⟩, fun _ h => absurd HSk.out h⟩
  by_cases h5 : id = R.last
  · have HEq := hid h5
    have hid1 : ¬ R.last < id := by omega
    clear h5
    rcases R.cl_range p with hc | hc
    rotate_left
    · have HSk : Hid (R.skip p id) := .inr ⟨HEq.out, hc.1⟩
      have hc0 : 0 ≤ R.cl p := hc.1
      clear hc hid1 h4
      go_enter Try.func47, Try.ntmps47
      go_wp2_with (first | (rw [← hW]; clear hW) | (go_at_call 50; refine HG.out.mono ?_; rintro e w1 ⟨rfl, hb1⟩; rw [HH.out]; have hI1 := HIW.out.below hb1; have c3 := hI1.box.cell 3; have hbl1 := hI1.box.lt; simp [Rb.arr] at c3; rw [← HEq.out] at c3) | (go_at_call 63; refine (closed_any p _ rb R hI1 (by omega)).mono ?_; rintro e w2 ⟨rfl, hb2⟩))
      refine bodyPost_ret (v := .tuple #[.bool false, .int .i64 0]) (by simp [results, Try.results47, go_sem]) rfl ?_
      exact ⟨R, false, by rw [HE.out], RSet.same HI.out ((HB.out.trans (hb1.mono HB.out.size)).trans (hb2.mono (Nat.le_trans HB.out.size hb1.size))), fun _ => ⟨rfl, rfl⟩, fun _ h => absurd HSk.out h⟩
    have HSk : Hid (¬ R.skip p id) := by
      rintro (h | h)
      · omega
      · have := h.2; omega
    have HCl := hid hc
    clear hc h4
    go_enter Try.func47, Try.ntmps47
    go_upto_region 14 with (first | (rw [← hW]; clear hW) | (go_at_call 50; refine HG.out.mono ?_; rintro e w1 ⟨rfl, hb1⟩; rw [HH.out]; have hI1 := HIW.out.below hb1; have c3 := hI1.box.cell 3; have hbl1 := hI1.box.lt; simp [Rb.arr] at c3; rw [← HEq.out] at c3) | (go_at_call 63; refine (closed_any p _ rb R hI1 (by omega)).mono ?_; rintro e w2 ⟨rfl, hb2⟩; rw [HCl.out]; have hI2 := hI1.below hb2; have d3 := hI2.box.cell 3; have hbl2 := hI2.box.lt; simp [Rb.arr] at d3; rw [← HEq.out] at d3))
    have hw : Below w.heap.size w w2 := (HB.out.trans (hb1.mono HB.out.size)).trans (hb2.mono (Nat.le_trans HB.out.size hb1.size))
    have HX2 : Hid (Box w2 w.heap.size #[.int .i64 num, .slice l.p l.n l.c] 40) := (HX.out.below hb1).below hb2
    have HS2 : Hid (RSet w rb R w2 (R.base id)) := by
      unfold Hid
      rw [show R.base id = R by rw [Rb.base, if_neg (by omega)]]
      exact RSet.same HI.out hw
    clear hb1 hb2 hI1 hI2 c3 d3 hw HG
    have HP2 : Hid (0 ≤ (R.base id).ports ∧ (R.base id).ports ≤ 4 ∧ (R.base id).ls.n ≤ R.ls.n) := by
      unfold Hid Rb.base
      split <;> first | exact ⟨hp, hp4, Nat.zero_le _⟩ | exact ⟨hp, hp4, Nat.le_refl _⟩
    obtain ⟨RB, hRB⟩ : ∃ x, x = R.base id := ⟨_, rfl⟩
    rw [← hRB] at HS2 HP2
    have HRB := hid hRB
    clear hRB
    go_wp2_with fail
    refine (copied_any w2 rb RB HS2.out.inv (by have := HP2.out.2.2; omega) HP2.out.1 HP2.out.2.1).mono ?_
    rintro e w3 ⟨rfl, hb3⟩
    have HS3 := hid (HS2.out.trans (RSet.same HS2.out.inv hb3))
    have hX3 := HX2.out.below hb3
    have c4 := HS3.out.inv.box.cell 4
    have hbl3 := HS3.out.inv.box.lt
    have s0 := hX3.cell 0
    have s1 := hX3.cell 1
    have sl3 := hX3.lt
    simp [Rb.arr] at c4 s0 s1
    obtain ⟨cp0, hcp0⟩ : ∃ x, x = RB.cp := ⟨_, rfl⟩
    rw [← hcp0]
    have HCp0 := hid hcp0
    have HKp : Hid (LT.In elRec w3 S a ∧ LT.In elCell w3 S l ∧ LT.In elRec w3 S q) := ⟨HIn.out.1.kept HS3.out.but.size (fun k hk hl => HS3.out.but.block k hl (HSc.out k hk)), HIn.out.2.1.kept HS3.out.but.size (fun k hk hl => HS3.out.but.block k hl (HSc.out k hk)), HIn.out.2.2.kept HS3.out.but.size (fun k hk hl => HS3.out.but.block k hl (HSc.out k hk))⟩
    have HW3 : Hid (w.heap.size ≤ w3.heap.size) := HS3.out.but.size
    clear hX3 hb3 hcp0 HS2 HX2
    go_wp2_with fail
    refine wp_region_calmE 30 (fun wx => Below w3.heap.size w3 wx) [(0, true), (1, true), (2, true), (3, true), (4, false), (5, true), (6, true), (7, true), (9, false), (11, true)] (.one 8 true [] (.one 10 true [] (.one 12 true [(13, true)] (.one 14 true [] (.one 15 false [(16, true), (17, true)] (.one 18 false [] .done)))))) (by kernel_rfl) (by kernel_rfl) (Below.refl _ _).drew ?_
    refine wpPre_e rfl rfl (fun K1 hK1 => ?_)
    apply Exists.intro
    refine And.intro (fun wx hx => ?_) ?_
    · go_simp
      try rfl
    go_simp
    refine hK1 _ ?_
    clear hK1 K1
    refine wpPre_e rfl rfl (fun K1 hK1 => ?_)
    apply Exists.intro
    refine And.intro (fun wx hx => ?_) ?_
    · go_simp
      try rfl
    go_simp
    refine hK1 _ ?_
    clear hK1 K1
    refine wpPre_e rfl rfl (fun K1 hK1 => ?_)
    apply Exists.intro
    refine And.intro (fun wx hx => ?_) ?_
    · go_simp
      try rfl
    go_simp
    refine hK1 _ ?_
    clear hK1 K1
    refine wpPre_e rfl rfl (fun K1 hK1 => ?_)
    apply Exists.intro
    refine And.intro (fun wx hx => ?_) ?_
    · go_simp
      try rfl
    go_simp
    refine hK1 _ ?_
    clear hK1 K1
    refine wpPre_e rfl rfl (fun K1 hK1 => ?_)
    apply Exists.intro
    refine And.intro (fun wx hx => ?_) ?_
    · have e0 := below_fact hx rfl c4
      have e1 := below_fact hx rfl s0
      have e2 := below_fact hx rfl s1
      go_simp
      try rfl
    go_simp
    refine hK1 _ ?_
    clear hK1 K1
    refine wpPre_e rfl rfl (fun K1 hK1 => ?_)
    apply Exists.intro
    refine And.intro (fun wx hx => ?_) ?_
    · go_simp
      try rfl
    go_simp
    refine hK1 _ ?_
    clear hK1 K1
    refine wpPre_e rfl rfl (fun K1 hK1 => ?_)
    apply Exists.intro
    refine And.intro (fun wx hx => ?_) ?_
    · go_simp
      try rfl
    go_simp
    refine hK1 _ ?_
    clear hK1 K1
    refine wpPre_e rfl rfl (fun K1 hK1 => ?_)
    apply Exists.intro
    refine And.intro (fun wx hx => ?_) ?_
    · go_simp
      try rfl
    go_simp
    refine hK1 _ ?_
    clear hK1 K1
    refine wpPre_e rfl rfl (fun K1 hK1 => ?_)
    apply Exists.intro
    refine And.intro (fun wx hx => ?_) ?_
    · have e0 := below_fact hx rfl c4
      have e1 := below_fact hx rfl s0
      have e2 := below_fact hx rfl s1
      go_simp
      try rfl
    go_simp
    refine hK1 _ ?_
    clear hK1 K1
    refine wpPre_e rfl rfl (fun K1 hK1 => ?_)
    apply Exists.intro
    refine And.intro (fun wx hx => ?_) ?_
    · go_simp
      try rfl
    go_simp
    refine hK1 _ ?_
    clear hK1 K1
    refine wpPre_nil ?_
    refine wpTr_e rfl (fun K1 hK1 => ?_)
    refine step_call rfl 65 #[.tmp 81] _ rfl Try.f65 Try.func65 (by kernel_rfl) rfl #[.slice a.p a.n a.c] rfl _ (r_copyRs a w3.drew S (HKp.out.1.below (Below.refl _ _).drew) HSz.out.1) (fun e wA hA => ?_)
    obtain ⟨a1, rfl, aal, ain, ab⟩ := hA
    refine ⟨_, rfl, ?_⟩
    have hbA : Below w3.heap.size w3 wA := (Below.refl w3.heap.size w3).drew.trans ab
    have HA1 : Hid (LT.Alk RT.Alike a a1 ∧ LT.In elRec wA (fun b => w3.heap.size ≤ b) a1 ∧ Below w3.heap.size w3 wA) := ⟨aal, ain, hbA⟩
    clear aal ain ab
    go_simp
    refine hK1 _ _ (fun _ => hbA) ?_
    clear hK1 K1
    refine wpPre_nil ?_
    refine wpTr_e rfl (fun K1 hK1 => ?_)
    refine step_call rfl 66 #[.tmp 83] _ rfl Try.f66 Try.func66 (by kernel_rfl) rfl #[.agg #[.int .i64 num, .slice l.p l.n l.c]] rfl _ (r_copyS num l wA S (HKp.out.2.1.below hbA) HSz.out.2.1) (fun e wB hB => ?_)
    obtain ⟨l1, rfl, lal, lin, lb⟩ := hB
    refine ⟨_, rfl, ?_⟩
    have hbB : Below w3.heap.size w3 wB := hbA.trans (lb.mono hbA.size)
    have HL1 : Hid (LT.Alk VT.Alike l l1 ∧ LT.In elCell wB (fun b => wA.heap.size ≤ b) l1 ∧ Below w3.heap.size w3 wB ∧ Below wA.heap.size wA wB) := ⟨lal, lin, hbB, lb⟩
    clear lal lin lb
    go_simp
    refine hK1 _ _ (fun _ => hbB) ?_
    clear hK1 K1
    refine wpPre_nil ?_
    refine wpTr_e rfl (fun K1 hK1 => ?_)
    refine step_call rfl 65 #[.tmp 85] _ rfl Try.f65 Try.func65 (by kernel_rfl) rfl #[.slice q.p q.n q.c] rfl _ (r_copyRs q wB S (HKp.out.2.2.below hbB) HSz.out.2.2) (fun e wC hC => ?_)
    obtain ⟨q1, rfl, qal, qin, qb⟩ := hC
    refine ⟨_, rfl, ?_⟩
    have hbC : Below w3.heap.size w3 wC := hbB.trans (qb.mono hbB.size)
    have HQ1 : Hid (LT.Alk RT.Alike q q1 ∧ LT.In elRec wC (fun b => wB.heap.size ≤ b) q1 ∧ Below w3.heap.size w3 wC ∧ Below wB.heap.size wB wC) := ⟨qal, qin, hbC, qb⟩
    clear qal qin qb hbA hbB
    go_simp
    refine hK1 _ _ (fun _ => hbC) ?_
    clear hK1 K1
    refine wpPre_e rfl rfl (fun K1 hK1 => ?_)
    apply Exists.intro
    refine And.intro (fun wx hx => ?_) ?_
    · go_simp
      try rfl
    go_simp
    refine hK1 _ ?_
    clear hK1 K1
    refine wpPre_nil ?_
    refine wpTr_e rfl (fun K1 hK1 => ?_)
    go_simp
    have hbD : Below w3.heap.size w3 (wC.alloc (.cells #[.int .i64 p, .int .i64 id, .string ⟨#[]⟩, .int .i64 0, .int .i64 0, .string ⟨#[]⟩, .slice none 0 0, .slice none 0 0, .slice a1.p a1.n a1.c, .int .i64 num, .slice l1.p l1.n l1.c, .slice q1.p q1.n q1.c] 115)) := hbC.alloc hbC.size _
    refine hK1 _ _ (fun _ => hbD) ?_
    clear hK1 K1
    refine wpPre_nil ?_
    refine wpTr_e rfl (fun K1 hK1 => ?_)
    have hI5 := HS3.out.inv.below hbD
    have hnews : ∀ j u', (elTd.cells (tdM p id a1 num l1 q1))[j]? = some u' → (wC.alloc (.cells #[.int .i64 p, .int .i64 id, .string ⟨#[]⟩, .int .i64 0, .int .i64 0, .string ⟨#[]⟩, .slice none 0 0, .slice none 0 0, .slice a1.p a1.n a1.c, .int .i64 num, .slice l1.p l1.n l1.c, .slice q1.p q1.n q1.c] 115)).cell? ((⟨wC.heap.size, 0, none⟩ : Addr).add j) = some u' := fun j u' hu => by
      rw [Go.WideShapes.add_plain, (Box.new wC #[.int .i64 p, .int .i64 id, .string ⟨#[]⟩, .int .i64 0, .int .i64 0, .string ⟨#[]⟩, .slice none 0 0, .slice none 0 0, .slice a1.p a1.n a1.c, .int .i64 num, .slice l1.p l1.n l1.c, .slice q1.p q1.n q1.c] 115).cell]
      rw [show 0 + j = j by omega]
      simpa [elTd, TD.cells, tdM, rt0, VT.kind, VT.int, VT.text, VT.p, VT.n, VT.c] using hu
    have HX5 := hid (And.intro hI5 (And.intro hbD hnews))
    clear hI5 hnews
    refine step_app rfl (.tmp 78) (.tmp 88) 99 115 i0 _ 12 192 HKd.out rfl 0 (.slice RB.ls.p RB.ls.n RB.ls.c) RB.ls.n (rowsT RB.ls) rfl HX5.out.1.own ⟨wC.heap.size, 0, none⟩ 1 1 (elTd.cells (tdM p id a1 num l1 q1)) rfl rfl HX5.out.2.2 (elTd.one (tdM p id a1 num l1 q1)) (by have := HP2.out.2.2; omega) (by have := HP2.out.2.2; omega) (Nat.zero_le _) ?_
    intro v6 w6 ho6 hg6 hn6
    obtain ⟨p6, c6, rfl⟩ := ownsRow_slice ho6
    have hb6 : Box w6 rb RB.arr 101 := HX5.out.1.box.kept (hg6.block rb HX5.out.1.box.lt (fun e => HS3.out.inv.ne e.symm))
    have y1 := hb6.cell 4
    have g1 := hb6.frozen 4
    have hlt6 := hb6.lt
    simp [Rb.arr] at y1
    have HS6 := hid (HS3.out.inv.pushed (w1 := wC.alloc (.cells #[.int .i64 p, .int .i64 id, .string ⟨#[]⟩, .int .i64 0, .int .i64 0, .string ⟨#[]⟩, .slice none 0 0, .slice none 0 0, .slice a1.p a1.n a1.c, .int .i64 num, .slice l1.p l1.n l1.c, .slice q1.p q1.n q1.c] 115)) (w2 := w6) (p := p6) (c := c6) (t := tdM p id a1 num l1 q1) HX5.out.2.1 ho6 hg6 hn6)
    have hTu : TD.In (wC.alloc (.cells #[.int .i64 p, .int .i64 id, .string ⟨#[]⟩, .int .i64 0, .int .i64 0, .string ⟨#[]⟩, .slice none 0 0, .slice none 0 0, .slice a1.p a1.n a1.c, .int .i64 num, .slice l1.p l1.n l1.c, .slice q1.p q1.n q1.c] 115)) (fun k => w3.heap.size ≤ k) (tdM p id a1 num l1 q1) := by
      have hal : Below wC.heap.size wC (wC.alloc (.cells #[.int .i64 p, .int .i64 id, .string ⟨#[]⟩, .int .i64 0, .int .i64 0, .string ⟨#[]⟩, .slice none 0 0, .slice none 0 0, .slice a1.p a1.n a1.c, .int .i64 num, .slice l1.p l1.n l1.c, .slice q1.p q1.n q1.c] 115)) := (Below.refl _ _).alloc (Nat.le_refl _) _
      have sA := HA1.out.2.2.size
      have sB := HL1.out.2.2.2.size
      refine ⟨fun h => absurd h hidz, ?_, ?_, ?_⟩
      · exact ((HA1.out.2.1.below HL1.out.2.2.2).below HQ1.out.2.2.2).below hal
      · exact ((HL1.out.2.1.below HQ1.out.2.2.2).below hal).mono fun k hk _ => Nat.le_trans sA hk
      · exact (HQ1.out.2.1.below hal).mono fun k hk _ => Nat.le_trans sA (Nat.le_trans sB hk)
    have HR6 := hid (TD.apart (p := p6) (c := c6) HS3.out.inv hTu hg6 hn6)
    clear ho6 hg6 hn6 hb6 HX5 hTu
    go_simp
    refine hK1 _ _ (fun h => by cases h) ?_
    clear hK1 K1
    refine wpPre_e rfl rfl (fun K1 hK1 => ?_)
    apply Exists.intro
    refine And.intro (fun wx hx => ?_) ?_
    · go_simp
      try rfl
    go_simp
    refine hK1 _ ?_
    clear hK1 K1
    refine wpPre_e rfl rfl (fun K1 hK1 => ?_)
    apply Exists.intro
    refine And.intro (fun wx hx => ?_) ?_
    · go_simp
      try rfl
    go_simp
    refine hK1 _ ?_
    clear hK1 K1
    refine wpPre_nil ?_
    refine wpTr_e rfl (fun K1 hK1 => ?_)
    go_simp
    refine hK1 _ _ (fun h => by cases h) ?_
    clear hK1 K1
    refine wpPre_nil ?_
    refine wpTr_done ?_
    obtain ⟨w7, hw7⟩ : ∃ x, x = w6.setCell ⟨rb, 4, none⟩ (.slice p6 (RB.ls.n + 1) c6) := ⟨_, rfl⟩
    rw [← hw7] at HS6 HR6 ⊢
    obtain ⟨R7, hR7⟩ : ∃ x, x = RB.push p6 c6 (tdM p id a1 num l1 q1) := ⟨_, rfl⟩
    rw [← hR7] at HS6 HR6
    have HR7 := hid hR7
    have HFin : Hid (∀ r, r = (decide (cp0 < 0) && decide (0 ≤ R7.cp)) → ∀ w8, Below w7.heap.size w7 w8 → RMarkP p id a num l q w rb R (.returned (.tuple #[.bool r, .int .i64 0])) w8) := by
      intro r hr w8 hb8
      have hs := (HS3.out.trans HS6.out).trans (RSet.same HS6.out.inv hb8)
      refine ⟨R7, r, by rw [HE.out], hs, fun h => absurd h (by rintro (h | h); exact h HE.out; exact HSk.out h), fun _ _ => ⟨a1, l1, q1, p6, c6, HA1.out.1, HL1.out.1, HQ1.out.1, ?_, by rw [HR7.out, HRB.out], by rw [hr, HCp0.out, HRB.out]⟩⟩
      refine elTd.mono (elTd.kept HR6.out hb8.size (fun k _ hl => hb8.block k hl)) fun k hk _ => ⟨Nat.le_trans HW3.out hk.1, hk.2⟩
    have HP7 : Hid (R7.ls.n ≤ 100000 ∧ 0 ≤ R7.ports ∧ R7.ports ≤ 4) := by
      unfold Hid
      rw [hR7]
      exact ⟨by simp only [Rb.push, LT.push]; have := HP2.out.2.2; omega, HP2.out.1, HP2.out.2.1⟩
    clear hR7 hw7 c4 s0 s1 y1 g1 hlt6 HA1 HL1 HQ1 HR6 hbC hbD hbl3 sl3
    have hbl7 := HS6.out.inv.box.lt
    by_cases hneg : cp0 < 0
    rotate_left
    · have hn7 : ¬ cp0 < 0 := hneg
      go_wp2
      refine bodyPost_ret (v := .tuple #[.bool false, .int .i64 0]) (by simp [results, Try.results47, go_sem]) rfl ?_
      exact HFin.out _ (by rw [decide_eq_false (by omega : ¬ cp0 < 0)]; rfl) _ (Below.refl _ _)
    have HC7 := hid (copied_any w7 rb R7 HS6.out.inv HP7.out.1 HP7.out.2.1 HP7.out.2.2)
    rcases R7.cp_range with h7 | h7
    · go_wp2_with (go_at_call 64; refine HC7.out.mono ?_; rintro e w8 ⟨rfl, hb8⟩; rw [h7])
      refine bodyPost_ret (v := .tuple #[.bool false, .int .i64 0]) (by simp [results, Try.results47, go_sem]) rfl ?_
      exact HFin.out _ (by rw [h7]; simp) _ hb8
    · go_wp2_with (go_at_call 64; refine HC7.out.mono ?_; rintro e w8 ⟨rfl, hb8⟩)
      refine bodyPost_ret (v := .tuple #[.bool true, .int .i64 0]) (by simp [results, Try.results47, go_sem]) rfl ?_
      exact HFin.out _ (by rw [decide_eq_true hneg, decide_eq_true h7]; rfl) _ hb8
  have hid1 : R.last < id := by omega
  have h5' : (id == R.last) = false := by simp [h5]
  have HSk : Hid (¬ R.skip p id) := by
    rintro (h | h)
    · omega
    · exact h5 h.1
  clear h5 h4
  go_enter Try.func47, Try.ntmps47
  go_upto_region 14 with (first | (rw [← hW]; clear hW) | (go_at_call 50; refine HG.out.mono ?_; rintro e w1 ⟨rfl, hb1⟩; rw [HH.out]; have hI1 := HIW.out.below hb1; have c3 := hI1.box.cell 3; have hbl1 := hI1.box.lt; have c4 := hI1.box.cell 4; have c5 := hI1.box.cell 5; have f3 := hI1.box.frozen 3; have f4 := hI1.box.frozen 4; have f5 := hI1.box.frozen 5; simp [Rb.arr] at c3 c4 c5))
  have hw : Below w.heap.size w w1 := HB.out.trans (hb1.mono HB.out.size)
  have hX1 := HX.out.below hb1
  obtain ⟨w2, hw2⟩ : ∃ x, x = ((w1.setCell ⟨rb, 3, none⟩ (.int .i64 id)).setCell ⟨rb, 4, none⟩ (.slice none 0 0)).setCell ⟨rb, 5, none⟩ (.bool false) := ⟨_, rfl⟩
  rw [← hw2]
  have hbt : But (fun k => k = rb) w1 w2 := by rw [hw2]; exact ((((But.one w1 rb).setAt 3 _).setAt 4 _).setAt 5 _)
  have HS2 : Hid (RSet w rb R w2 (R.base id)) := by
    unfold Hid
    refine (RSet.same HI.out hw).trans ?_
    rw [show R.base id = R.begin id by rw [Rb.base, if_pos hid1]]
    refine RbI.empty ⟨rfl, rfl, rfl⟩ ?_ hbt
    have h := ((hI1.box.set 3 (.int .i64 id)).set 4 (.slice none 0 0)).set 5 (.bool false)
    rw [hw2]
    exact h
  have HX2 : Hid (Box w2 w.heap.size #[.int .i64 num, .slice l.p l.n l.c] 40) := hX1.kept (hbt.block _ hX1.lt hsb)
  clear hb1 hI1 c3 c4 c5 f3 f4 f5 hw hX1 hbt hw2 HG
  have HP2 : Hid (0 ≤ (R.base id).ports ∧ (R.base id).ports ≤ 4 ∧ (R.base id).ls.n ≤ R.ls.n) := by
    unfold Hid Rb.base
    split <;> first | exact ⟨hp, hp4, Nat.zero_le _⟩ | exact ⟨hp, hp4, Nat.le_refl _⟩
  obtain ⟨RB, hRB⟩ : ∃ x, x = R.base id := ⟨_, rfl⟩
  rw [← hRB] at HS2 HP2
  have HRB := hid hRB
  clear hRB
  go_wp2_with fail
  refine (copied_any w2 rb RB HS2.out.inv (by have := HP2.out.2.2; omega) HP2.out.1 HP2.out.2.1).mono ?_
  rintro e w3 ⟨rfl, hb3⟩
  have HS3 := hid (HS2.out.trans (RSet.same HS2.out.inv hb3))
  have hX3 := HX2.out.below hb3
  have c4 := HS3.out.inv.box.cell 4
  have hbl3 := HS3.out.inv.box.lt
  have s0 := hX3.cell 0
  have s1 := hX3.cell 1
  have sl3 := hX3.lt
  simp [Rb.arr] at c4 s0 s1
  obtain ⟨cp0, hcp0⟩ : ∃ x, x = RB.cp := ⟨_, rfl⟩
  rw [← hcp0]
  have HCp0 := hid hcp0
  have HKp : Hid (LT.In elRec w3 S a ∧ LT.In elCell w3 S l ∧ LT.In elRec w3 S q) := ⟨HIn.out.1.kept HS3.out.but.size (fun k hk hl => HS3.out.but.block k hl (HSc.out k hk)), HIn.out.2.1.kept HS3.out.but.size (fun k hk hl => HS3.out.but.block k hl (HSc.out k hk)), HIn.out.2.2.kept HS3.out.but.size (fun k hk hl => HS3.out.but.block k hl (HSc.out k hk))⟩
  have HW3 : Hid (w.heap.size ≤ w3.heap.size) := HS3.out.but.size
  clear hX3 hb3 hcp0 HS2 HX2
  go_wp2_with fail
  refine wp_region_calmE 30 (fun wx => Below w3.heap.size w3 wx) [(0, true), (1, true), (2, true), (3, true), (4, false), (5, true), (6, true), (7, true), (9, false), (11, true)] (.one 8 true [] (.one 10 true [] (.one 12 true [(13, true)] (.one 14 true [] (.one 15 false [(16, true), (17, true)] (.one 18 false [] .done)))))) (by kernel_rfl) (by kernel_rfl) (Below.refl _ _).drew ?_
  refine wpPre_e rfl rfl (fun K1 hK1 => ?_)
  apply Exists.intro
  refine And.intro (fun wx hx => ?_) ?_
  · go_simp
    try rfl
  go_simp
  refine hK1 _ ?_
  clear hK1 K1
  refine wpPre_e rfl rfl (fun K1 hK1 => ?_)
  apply Exists.intro
  refine And.intro (fun wx hx => ?_) ?_
  · go_simp
    try rfl
  go_simp
  refine hK1 _ ?_
  clear hK1 K1
  refine wpPre_e rfl rfl (fun K1 hK1 => ?_)
  apply Exists.intro
  refine And.intro (fun wx hx => ?_) ?_
  · go_simp
    try rfl
  go_simp
  refine hK1 _ ?_
  clear hK1 K1
  refine wpPre_e rfl rfl (fun K1 hK1 => ?_)
  apply Exists.intro
  refine And.intro (fun wx hx => ?_) ?_
  · go_simp
    try rfl
  go_simp
  refine hK1 _ ?_
  clear hK1 K1
  refine wpPre_e rfl rfl (fun K1 hK1 => ?_)
  apply Exists.intro
  refine And.intro (fun wx hx => ?_) ?_
  · have e0 := below_fact hx rfl c4
    have e1 := below_fact hx rfl s0
    have e2 := below_fact hx rfl s1
    go_simp
    try rfl
  go_simp
  refine hK1 _ ?_
  clear hK1 K1
  refine wpPre_e rfl rfl (fun K1 hK1 => ?_)
  apply Exists.intro
  refine And.intro (fun wx hx => ?_) ?_
  · go_simp
    try rfl
  go_simp
  refine hK1 _ ?_
  clear hK1 K1
  refine wpPre_e rfl rfl (fun K1 hK1 => ?_)
  apply Exists.intro
  refine And.intro (fun wx hx => ?_) ?_
  · go_simp
    try rfl
  go_simp
  refine hK1 _ ?_
  clear hK1 K1
  refine wpPre_e rfl rfl (fun K1 hK1 => ?_)
  apply Exists.intro
  refine And.intro (fun wx hx => ?_) ?_
  · go_simp
    try rfl
  go_simp
  refine hK1 _ ?_
  clear hK1 K1
  refine wpPre_e rfl rfl (fun K1 hK1 => ?_)
  apply Exists.intro
  refine And.intro (fun wx hx => ?_) ?_
  · have e0 := below_fact hx rfl c4
    have e1 := below_fact hx rfl s0
    have e2 := below_fact hx rfl s1
    go_simp
    try rfl
  go_simp
  refine hK1 _ ?_
  clear hK1 K1
  refine wpPre_e rfl rfl (fun K1 hK1 => ?_)
  apply Exists.intro
  refine And.intro (fun wx hx => ?_) ?_
  · go_simp
    try rfl
  go_simp
  refine hK1 _ ?_
  clear hK1 K1
  refine wpPre_nil ?_
  refine wpTr_e rfl (fun K1 hK1 => ?_)
  refine step_call rfl 65 #[.tmp 81] _ rfl Try.f65 Try.func65 (by kernel_rfl) rfl #[.slice a.p a.n a.c] rfl _ (r_copyRs a w3.drew S (HKp.out.1.below (Below.refl _ _).drew) HSz.out.1) (fun e wA hA => ?_)
  obtain ⟨a1, rfl, aal, ain, ab⟩ := hA
  refine ⟨_, rfl, ?_⟩
  have hbA : Below w3.heap.size w3 wA := (Below.refl w3.heap.size w3).drew.trans ab
  have HA1 : Hid (LT.Alk RT.Alike a a1 ∧ LT.In elRec wA (fun b => w3.heap.size ≤ b) a1 ∧ Below w3.heap.size w3 wA) := ⟨aal, ain, hbA⟩
  clear aal ain ab
  go_simp
  refine hK1 _ _ (fun _ => hbA) ?_
  clear hK1 K1
  refine wpPre_nil ?_
  refine wpTr_e rfl (fun K1 hK1 => ?_)
  refine step_call rfl 66 #[.tmp 83] _ rfl Try.f66 Try.func66 (by kernel_rfl) rfl #[.agg #[.int .i64 num, .slice l.p l.n l.c]] rfl _ (r_copyS num l wA S (HKp.out.2.1.below hbA) HSz.out.2.1) (fun e wB hB => ?_)
  obtain ⟨l1, rfl, lal, lin, lb⟩ := hB
  refine ⟨_, rfl, ?_⟩
  have hbB : Below w3.heap.size w3 wB := hbA.trans (lb.mono hbA.size)
  have HL1 : Hid (LT.Alk VT.Alike l l1 ∧ LT.In elCell wB (fun b => wA.heap.size ≤ b) l1 ∧ Below w3.heap.size w3 wB ∧ Below wA.heap.size wA wB) := ⟨lal, lin, hbB, lb⟩
  clear lal lin lb
  go_simp
  refine hK1 _ _ (fun _ => hbB) ?_
  clear hK1 K1
  refine wpPre_nil ?_
  refine wpTr_e rfl (fun K1 hK1 => ?_)
  refine step_call rfl 65 #[.tmp 85] _ rfl Try.f65 Try.func65 (by kernel_rfl) rfl #[.slice q.p q.n q.c] rfl _ (r_copyRs q wB S (HKp.out.2.2.below hbB) HSz.out.2.2) (fun e wC hC => ?_)
  obtain ⟨q1, rfl, qal, qin, qb⟩ := hC
  refine ⟨_, rfl, ?_⟩
  have hbC : Below w3.heap.size w3 wC := hbB.trans (qb.mono hbB.size)
  have HQ1 : Hid (LT.Alk RT.Alike q q1 ∧ LT.In elRec wC (fun b => wB.heap.size ≤ b) q1 ∧ Below w3.heap.size w3 wC ∧ Below wB.heap.size wB wC) := ⟨qal, qin, hbC, qb⟩
  clear qal qin qb hbA hbB
  go_simp
  refine hK1 _ _ (fun _ => hbC) ?_
  clear hK1 K1
  refine wpPre_e rfl rfl (fun K1 hK1 => ?_)
  apply Exists.intro
  refine And.intro (fun wx hx => ?_) ?_
  · go_simp
    try rfl
  go_simp
  refine hK1 _ ?_
  clear hK1 K1
  refine wpPre_nil ?_
  refine wpTr_e rfl (fun K1 hK1 => ?_)
  go_simp
  have hbD : Below w3.heap.size w3 (wC.alloc (.cells #[.int .i64 p, .int .i64 id, .string ⟨#[]⟩, .int .i64 0, .int .i64 0, .string ⟨#[]⟩, .slice none 0 0, .slice none 0 0, .slice a1.p a1.n a1.c, .int .i64 num, .slice l1.p l1.n l1.c, .slice q1.p q1.n q1.c] 115)) := hbC.alloc hbC.size _
  refine hK1 _ _ (fun _ => hbD) ?_
  clear hK1 K1
  refine wpPre_nil ?_
  refine wpTr_e rfl (fun K1 hK1 => ?_)
  have hI5 := HS3.out.inv.below hbD
  have hnews : ∀ j u', (elTd.cells (tdM p id a1 num l1 q1))[j]? = some u' → (wC.alloc (.cells #[.int .i64 p, .int .i64 id, .string ⟨#[]⟩, .int .i64 0, .int .i64 0, .string ⟨#[]⟩, .slice none 0 0, .slice none 0 0, .slice a1.p a1.n a1.c, .int .i64 num, .slice l1.p l1.n l1.c, .slice q1.p q1.n q1.c] 115)).cell? ((⟨wC.heap.size, 0, none⟩ : Addr).add j) = some u' := fun j u' hu => by
    rw [Go.WideShapes.add_plain, (Box.new wC #[.int .i64 p, .int .i64 id, .string ⟨#[]⟩, .int .i64 0, .int .i64 0, .string ⟨#[]⟩, .slice none 0 0, .slice none 0 0, .slice a1.p a1.n a1.c, .int .i64 num, .slice l1.p l1.n l1.c, .slice q1.p q1.n q1.c] 115).cell]
    rw [show 0 + j = j by omega]
    simpa [elTd, TD.cells, tdM, rt0, VT.kind, VT.int, VT.text, VT.p, VT.n, VT.c] using hu
  have HX5 := hid (And.intro hI5 (And.intro hbD hnews))
  clear hI5 hnews
  refine step_app rfl (.tmp 78) (.tmp 88) 99 115 i0 _ 12 192 HKd.out rfl 0 (.slice RB.ls.p RB.ls.n RB.ls.c) RB.ls.n (rowsT RB.ls) rfl HX5.out.1.own ⟨wC.heap.size, 0, none⟩ 1 1 (elTd.cells (tdM p id a1 num l1 q1)) rfl rfl HX5.out.2.2 (elTd.one (tdM p id a1 num l1 q1)) (by have := HP2.out.2.2; omega) (by have := HP2.out.2.2; omega) (Nat.zero_le _) ?_
  intro v6 w6 ho6 hg6 hn6
  obtain ⟨p6, c6, rfl⟩ := ownsRow_slice ho6
  have hb6 : Box w6 rb RB.arr 101 := HX5.out.1.box.kept (hg6.block rb HX5.out.1.box.lt (fun e => HS3.out.inv.ne e.symm))
  have y1 := hb6.cell 4
  have g1 := hb6.frozen 4
  have hlt6 := hb6.lt
  simp [Rb.arr] at y1
  have HS6 := hid (HS3.out.inv.pushed (w1 := wC.alloc (.cells #[.int .i64 p, .int .i64 id, .string ⟨#[]⟩, .int .i64 0, .int .i64 0, .string ⟨#[]⟩, .slice none 0 0, .slice none 0 0, .slice a1.p a1.n a1.c, .int .i64 num, .slice l1.p l1.n l1.c, .slice q1.p q1.n q1.c] 115)) (w2 := w6) (p := p6) (c := c6) (t := tdM p id a1 num l1 q1) HX5.out.2.1 ho6 hg6 hn6)
  have hTu : TD.In (wC.alloc (.cells #[.int .i64 p, .int .i64 id, .string ⟨#[]⟩, .int .i64 0, .int .i64 0, .string ⟨#[]⟩, .slice none 0 0, .slice none 0 0, .slice a1.p a1.n a1.c, .int .i64 num, .slice l1.p l1.n l1.c, .slice q1.p q1.n q1.c] 115)) (fun k => w3.heap.size ≤ k) (tdM p id a1 num l1 q1) := by
    have hal : Below wC.heap.size wC (wC.alloc (.cells #[.int .i64 p, .int .i64 id, .string ⟨#[]⟩, .int .i64 0, .int .i64 0, .string ⟨#[]⟩, .slice none 0 0, .slice none 0 0, .slice a1.p a1.n a1.c, .int .i64 num, .slice l1.p l1.n l1.c, .slice q1.p q1.n q1.c] 115)) := (Below.refl _ _).alloc (Nat.le_refl _) _
    have sA := HA1.out.2.2.size
    have sB := HL1.out.2.2.2.size
    refine ⟨fun h => absurd h hidz, ?_, ?_, ?_⟩
    · exact ((HA1.out.2.1.below HL1.out.2.2.2).below HQ1.out.2.2.2).below hal
    · exact ((HL1.out.2.1.below HQ1.out.2.2.2).below hal).mono fun k hk _ => Nat.le_trans sA hk
    · exact (HQ1.out.2.1.below hal).mono fun k hk _ => Nat.le_trans sA (Nat.le_trans sB hk)
  have HR6 := hid (TD.apart (p := p6) (c := c6) HS3.out.inv hTu hg6 hn6)
  clear ho6 hg6 hn6 hb6 HX5 hTu
  go_simp
  refine hK1 _ _ (fun h => by cases h) ?_
  clear hK1 K1
  refine wpPre_e rfl rfl (fun K1 hK1 => ?_)
  apply Exists.intro
  refine And.intro (fun wx hx => ?_) ?_
  · go_simp
    try rfl
  go_simp
  refine hK1 _ ?_
  clear hK1 K1
  refine wpPre_e rfl rfl (fun K1 hK1 => ?_)
  apply Exists.intro
  refine And.intro (fun wx hx => ?_) ?_
  · go_simp
    try rfl
  go_simp
  refine hK1 _ ?_
  clear hK1 K1
  refine wpPre_nil ?_
  refine wpTr_e rfl (fun K1 hK1 => ?_)
  go_simp
  refine hK1 _ _ (fun h => by cases h) ?_
  clear hK1 K1
  refine wpPre_nil ?_
  refine wpTr_done ?_
  obtain ⟨w7, hw7⟩ : ∃ x, x = w6.setCell ⟨rb, 4, none⟩ (.slice p6 (RB.ls.n + 1) c6) := ⟨_, rfl⟩
  rw [← hw7] at HS6 HR6 ⊢
  obtain ⟨R7, hR7⟩ : ∃ x, x = RB.push p6 c6 (tdM p id a1 num l1 q1) := ⟨_, rfl⟩
  rw [← hR7] at HS6 HR6
  have HR7 := hid hR7
  have HFin : Hid (∀ r, r = (decide (cp0 < 0) && decide (0 ≤ R7.cp)) → ∀ w8, Below w7.heap.size w7 w8 → RMarkP p id a num l q w rb R (.returned (.tuple #[.bool r, .int .i64 0])) w8) := by
    intro r hr w8 hb8
    have hs := (HS3.out.trans HS6.out).trans (RSet.same HS6.out.inv hb8)
    refine ⟨R7, r, by rw [HE.out], hs, fun h => absurd h (by rintro (h | h); exact h HE.out; exact HSk.out h), fun _ _ => ⟨a1, l1, q1, p6, c6, HA1.out.1, HL1.out.1, HQ1.out.1, ?_, by rw [HR7.out, HRB.out], by rw [hr, HCp0.out, HRB.out]⟩⟩
    refine elTd.mono (elTd.kept HR6.out hb8.size (fun k _ hl => hb8.block k hl)) fun k hk _ => ⟨Nat.le_trans HW3.out hk.1, hk.2⟩
  have HP7 : Hid (R7.ls.n ≤ 100000 ∧ 0 ≤ R7.ports ∧ R7.ports ≤ 4) := by
    unfold Hid
    rw [hR7]
    exact ⟨by simp only [Rb.push, LT.push]; have := HP2.out.2.2; omega, HP2.out.1, HP2.out.2.1⟩
  clear hR7 hw7 c4 s0 s1 y1 g1 hlt6 HA1 HL1 HQ1 HR6 hbC hbD hbl3 sl3
  have hbl7 := HS6.out.inv.box.lt
  by_cases hneg : cp0 < 0
  rotate_left
  · have hn7 : ¬ cp0 < 0 := hneg
    go_wp2
    refine bodyPost_ret (v := .tuple #[.bool false, .int .i64 0]) (by simp [results, Try.results47, go_sem]) rfl ?_
    exact HFin.out _ (by rw [decide_eq_false (by omega : ¬ cp0 < 0)]; rfl) _ (Below.refl _ _)
  have HC7 := hid (copied_any w7 rb R7 HS6.out.inv HP7.out.1 HP7.out.2.1 HP7.out.2.2)
  rcases R7.cp_range with h7 | h7
  · go_wp2_with (go_at_call 64; refine HC7.out.mono ?_; rintro e w8 ⟨rfl, hb8⟩; rw [h7])
    refine bodyPost_ret (v := .tuple #[.bool false, .int .i64 0]) (by simp [results, Try.results47, go_sem]) rfl ?_
    exact HFin.out _ (by rw [h7]; simp) _ hb8
  · go_wp2_with (go_at_call 64; refine HC7.out.mono ?_; rintro e w8 ⟨rfl, hb8⟩)
    refine bodyPost_ret (v := .tuple #[.bool true, .int .i64 0]) (by simp [results, Try.results47, go_sem]) rfl ?_
    exact HFin.out _ (by rw [decide_eq_true hneg, decide_eq_true h7]; rfl) _ hb8
end Go.Proofs.Ytdncnnjhfipokaa
