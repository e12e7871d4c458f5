import Derived.Test.YtldkepokcbjlpaaPack17
namespace Go.Proofs.Ytldkepokcbjlpaa
open Go.RowKit Go.Conc
set_option maxRecDepth 60000
theorem QSet.outer {w w1 w2 : World} {b r : Nat} {P P1 : Ps} (h : QSet w b P w1 P1) (hbt : But (fun k => k = r) w1 w2) (hr : w.heap.size ≤ r) (hn : ¬ P1.C b r) : QSet w b P w2 P1 :=
  ⟨h.inv.kept fun k hk hl => hbt.block k hl (fun e => hn (by rw [← e]; exact hk)), ⟨hbt.os.trans h.but.os, hbt.tape.trans h.but.tape, hbt.output.trans h.but.output, Nat.le_trans h.but.size hbt.size, fun k hl hk => (hbt.block k (Nat.lt_of_lt_of_le hl h.but.size) (by omega)).trans (h.but.block k hl hk)⟩, h.cs⟩
theorem own_ne_box {w : World} {base size n a : Nat} {e e' : TypeId} {v : Value} {xs : List Value} {cs : Array Value} (h : w.ownsRow base e size v n xs) (hb : Box w a cs e') (he : e ≠ e') : v.ownBlock ≠ some a := fun hv => by
  obtain ⟨hl, ⟨h1, _⟩ | ⟨g2, cap, cur, h1, h2, hh, _⟩⟩ := h
  · rw [h1] at hv; cases hv
  · rw [h1] at hv
    simp only [Value.ownBlock, Option.some.injEq] at hv
    subst hv
    unfold Box at hb
    rw [hb] at hh
    simp only [Option.some.injEq, Obj.cells.injEq] at hh
    exact he hh.2.1.symm
structure ShotAt (w : World) (P : Ps) (T a : Nat) (p : Option Addr) (c : Nat) (w' : World) : Prop where
  lo : w.heap.size ≤ a
  box : Box w' a #[.int .i64 P.under, .int .u32 P.sum, .slice p T c] 48
  bel : Below w.heap.size w w'
  own : w'.ownsRow w.heap.size 39 4 (.slice p T c) T (P.rows T)
structure GathQ (w : World) (b : Nat) (P : Ps) (t : Nat) (x : PtT) (e : Ending) (w' : World) (P' : Ps) : Prop where
  s : QSet w b P w' P'
  n : ¬ (P.gath t x).wants = [] → P' = P.gath t x ∧ e = .returned (.tuple #[.int .i64 1, .agg #[.int .i64 0, .int .u32 0, .slice none 0 0]])
  y : (P.gath t x).wants = [] → P' = (P.gath t x).fin 2 ∧ ∃ p c, ∃ T : Nat, P.tasks = (T : Int) ∧ e = .returned (.tuple #[.int .i64 2, .agg #[.int .i64 P.under, .int .u32 P.sum, .slice p T c]]) ∧ w'.ownsRow w.heap.size 39 4 (.slice p T c) T ((P.gath t x).rows T)
def GathP (w : World) (b : Nat) (P : Ps) (t : Nat) (x : PtT) (e : Ending) (w' : World) : Prop := ∃ P', GathQ w b P t x e w' P'
set_option maxHeartbeats 8000000 in
theorem gather_any (t : Nat) (ht : t < 12) (x : PtT) (w : World) (b : Nat) (P : Ps) (hI : PsI w b P) (hn : 0 < P.sts.n) : Calls Try.prog 33 #[.pointer (some ⟨b, 0, none⟩), .agg #[.int .i64 (t : Int), .int .i64 x.num, .slice x.cl.p x.cl.n x.cl.c, .slice x.lg.p x.lg.n x.lg.c, .slice x.pd.p x.pd.n x.pd.c]] w fun e w' => GathP w b P t x e w' := by
  obtain ⟨W0, hW0⟩ : ∃ V, V = w.alloc (.cells #[.int .i64 (t : Int), .int .i64 x.num, .slice x.cl.p x.cl.n x.cl.c, .slice x.lg.p x.lg.n x.lg.c, .slice x.pd.p x.pd.n x.pd.c] 91) := ⟨_, rfl⟩
  obtain ⟨W, hW⟩ : ∃ V, V = W0.alloc (.cells #[.int .i64 0, .int .u32 0, .slice none 0 0] 48) := ⟨_, rfl⟩
  have hs0 : W0.heap.size = w.heap.size + 1 := by rw [hW0]; simp
  have hs1 : W.heap.size = w.heap.size + 2 := by rw [hW]; simp [hs0]
  have hb0 : Below w.heap.size w W0 := by rw [hW0]; exact (Below.refl _ _).alloc (Nat.le_refl _) _
  have hbz : Below W0.heap.size W0 W := by rw [hW]; exact (Below.refl _ _).alloc (Nat.le_refl _) _
  have hb : Below w.heap.size w W := hb0.trans (hbz.mono hb0.size)
  have hx0 : Box W w.heap.size #[.int .i64 (t : Int), .int .i64 x.num, .slice x.cl.p x.cl.n x.cl.c, .slice x.lg.p x.lg.n x.lg.c, .slice x.pd.p x.pd.n x.pd.c] 91 := by
    have h : Box W0 w.heap.size #[.int .i64 (t : Int), .int .i64 x.num, .slice x.cl.p x.cl.n x.cl.c, .slice x.lg.p x.lg.n x.lg.c, .slice x.pd.p x.pd.n x.pd.c] 91 := by rw [hW0]; exact Box.new _ _ _
    exact h.below hbz
  have hx1 : Box W (w.heap.size + 1) #[.int .i64 0, .int .u32 0, .slice none 0 0] 48 := by
    rw [← hs0, hW]; exact Box.new _ _ _
  have HXL := hid hx0
  have hIW := hI.below hb
  have cp := hIW.cp ht
  obtain ⟨p0, p1, p2, p3⟩ := hIW.cpt ht
  have bl := hIW.box.lt
  have fp := hIW.box.frozen (5 + t)
  have f0 := hIW.box.frozen (17 + t * 4)
  have f1 := hIW.box.frozen (17 + t * 4 + 1)
  have f2 := hIW.box.frozen (17 + t * 4 + 2)
  have f3 := hIW.box.frozen (17 + t * 4 + 3)
  have ht12 : (t : Int) < 12 := by omega
  have HI := hid hI
  have HIW := hid hIW
  have HB := hid hb
  have HX1 := hid hx1
  have HW0 := hid hW0
  have HW := hid hW
  have wl : w.heap.size < W.heap.size := by omega
  have HG := hid ((hIW.below (Below.refl _ _).drew).gathered ht x)
  have hbw : b < w.heap.size := hI.box.lt
  have HXL2 : Hid (Box (W.setCell ⟨b, 5 + t, none⟩ (.int .u8 2)).drew w.heap.size #[.int .i64 (t : Int), .int .i64 x.num, .slice x.cl.p x.cl.n x.cl.c, .slice x.lg.p x.lg.n x.lg.c, .slice x.pd.p x.pd.n x.pd.c] 91) := hx0.kept ((((But.one W b).setAt (5 + t) (.int .u8 2)).drew).block _ hx0.lt (by omega))
  clear hI hb0 hbz hb hx0 hx1 hW0 hW hIW
  go_enter Try.func33, Try.ntmps33
  go_wp2_with fail
  rw [← HW0.out, ← HW.out]
  refine wp_region_calmE 30 (fun wx => Box wx w.heap.size #[.int .i64 (t : Int), .int .i64 x.num, .slice x.cl.p x.cl.n x.cl.c, .slice x.lg.p x.lg.n x.lg.c, .slice x.pd.p x.pd.n x.pd.c] 91) [(0, true), (1, true), (2, false), (3, true), (4, true), (5, false), (6, true), (7, false), (8, true), (9, true), (10, true), (11, true), (13, true), (14, true), (15, true)] (.one 12 true [(16, true)] (.one 17 false [] .done)) (by kernel_rfl) (by kernel_rfl) (HXL.out.below (Below.refl _ _).drew) ?_
  refine wpPre_e rfl rfl (fun K1 hK1 => ?_)
  apply Exists.intro
  refine And.intro (fun wx hx => ?_) ?_
  · go_simp
    try rfl
  go_simp
  refine hK1 _ ?_
  clear hK1 K1
  refine wpPre_e rfl rfl (fun K1 hK1 => ?_)
  apply Exists.intro
  refine And.intro (fun wx hx => ?_) ?_
  · go_simp
    try rfl
  go_simp
  refine hK1 _ ?_
  clear hK1 K1
  refine wpPre_e rfl rfl (fun K1 hK1 => ?_)
  apply Exists.intro
  refine And.intro (fun wx hx => ?_) ?_
  · have e0 := hx.resolve_left (by decide)
    have l0 := e0.cell 0
    have l1 := e0.cell 1
    have l2 := e0.cell 2
    have l3 := e0.cell 3
    have l4 := e0.cell 4
    simp at l0 l1 l2 l3 l4
    go_simp
    try rfl
  go_simp
  refine hK1 _ ?_
  clear hK1 K1
  refine wpPre_e rfl rfl (fun K1 hK1 => ?_)
  apply Exists.intro
  refine And.intro (fun wx hx => ?_) ?_
  · go_simp
    try rfl
  go_simp
  refine hK1 _ ?_
  clear hK1 K1
  refine wpPre_e rfl rfl (fun K1 hK1 => ?_)
  apply Exists.intro
  refine And.intro (fun wx hx => ?_) ?_
  · go_simp
    try rfl
  go_simp
  refine hK1 _ ?_
  clear hK1 K1
  refine wpPre_e rfl rfl (fun K1 hK1 => ?_)
  apply Exists.intro
  refine And.intro (fun wx hx => ?_) ?_
  · have e0 := hx.resolve_left (by decide)
    have l0 := e0.cell 0
    have l1 := e0.cell 1
    have l2 := e0.cell 2
    have l3 := e0.cell 3
    have l4 := e0.cell 4
    simp at l0 l1 l2 l3 l4
    go_simp
    try rfl
  go_simp
  refine hK1 _ ?_
  clear hK1 K1
  refine wpPre_e rfl rfl (fun K1 hK1 => ?_)
  apply Exists.intro
  refine And.intro (fun wx hx => ?_) ?_
  · go_simp
    try rfl
  go_simp
  refine hK1 _ ?_
  clear hK1 K1
  refine wpPre_e rfl rfl (fun K1 hK1 => ?_)
  apply Exists.intro
  refine And.intro (fun wx hx => ?_) ?_
  · have e0 := hx.resolve_left (by decide)
    have l0 := e0.cell 0
    have l1 := e0.cell 1
    have l2 := e0.cell 2
    have l3 := e0.cell 3
    have l4 := e0.cell 4
    simp at l0 l1 l2 l3 l4
    go_simp
    try rfl
  go_simp
  refine hK1 _ ?_
  clear hK1 K1
  refine wpPre_e rfl rfl (fun K1 hK1 => ?_)
  apply Exists.intro
  refine And.intro (fun wx hx => ?_) ?_
  · go_simp
    try rfl
  go_simp
  refine hK1 _ ?_
  clear hK1 K1
  refine wpPre_e rfl rfl (fun K1 hK1 => ?_)
  apply Exists.intro
  refine And.intro (fun wx hx => ?_) ?_
  · go_simp
    try rfl
  go_simp
  refine hK1 _ ?_
  clear hK1 K1
  refine wpPre_e rfl rfl (fun K1 hK1 => ?_)
  apply Exists.intro
  refine And.intro (fun wx hx => ?_) ?_
  · go_simp
    try rfl
  go_simp
  refine hK1 _ ?_
  clear hK1 K1
  refine wpPre_e rfl rfl (fun K1 hK1 => ?_)
  apply Exists.intro
  refine And.intro (fun wx hx => ?_) ?_
  · go_simp
    try rfl
  go_simp
  refine hK1 _ ?_
  clear hK1 K1
  refine wpPre_e rfl rfl (fun K1 hK1 => ?_)
  apply Exists.intro
  refine And.intro (fun wx hx => ?_) ?_
  · go_simp
    try rfl
  go_simp
  refine hK1 _ ?_
  clear hK1 K1
  refine wpPre_e rfl rfl (fun K1 hK1 => ?_)
  apply Exists.intro
  refine And.intro (fun wx hx => ?_) ?_
  · go_simp
    try rfl
  go_simp
  refine hK1 _ ?_
  clear hK1 K1
  refine wpPre_e rfl rfl (fun K1 hK1 => ?_)
  apply Exists.intro
  refine And.intro (fun wx hx => ?_) ?_
  · go_simp
    try rfl
  go_simp
  refine hK1 _ ?_
  clear hK1 K1
  refine wpPre_nil ?_
  refine wpTr_e rfl (fun K1 hK1 => ?_)
  go_simp
  refine hK1 _ _ (fun _ => HXL2.out) ?_
  clear hK1 K1
  refine wpPre_e rfl rfl (fun K1 hK1 => ?_)
  apply Exists.intro
  refine And.intro (fun wx hx => ?_) ?_
  · go_simp
    try rfl
  go_simp
  refine hK1 _ ?_
  clear hK1 K1
  refine wpPre_nil ?_
  refine wpTr_e rfl (fun K1 hK1 => ?_)
  go_simp
  refine hK1 _ _ (fun h => by cases h) ?_
  clear hK1 K1
  refine wpPre_nil ?_
  refine wpTr_done ?_
  obtain ⟨w2, hw2⟩ : ∃ V, V = (((((W.setCell ⟨b, 5 + t, none⟩ (.int .u8 2)).setCell ⟨b, 17 + t * 4, none⟩ (.int .i64 x.num)).setCell ⟨b, 17 + t * 4 + 1, none⟩ (.slice x.cl.p x.cl.n x.cl.c)).setCell ⟨b, 17 + t * 4 + 2, none⟩ (.slice x.lg.p x.lg.n x.lg.c)).setCell ⟨b, 17 + t * 4 + 3, none⟩ (.slice x.pd.p x.pd.n x.pd.c)).drew := ⟨_, rfl⟩
  rw [← hw2]
  have hbut2 : But (fun k => k = b) W w2 := by rw [hw2]; exact ((((((But.one W b).setAt (5 + t) _).setAt (17 + t * 4) _).setAt (17 + t * 4 + 1) _).setAt (17 + t * 4 + 2) _).setAt (17 + t * 4 + 3) _).drew
  have HG2 : Hid (QSet W b P w2 (P.gath t x)) := by rw [hw2]; exact (QSet.same HIW.out (Below.refl _ _).drew).trans HG.out
  have HX2 : Hid (Box w2 (w.heap.size + 1) #[.int .i64 0, .int .u32 0, .slice none 0 0] 48) := HX1.out.kept (hbut2.block _ HX1.out.lt (by omega))
  have hs2 := hbut2.size
  have bl2 : b < w2.heap.size := by omega
  clear HXL HXL2 cp p0 p1 p2 p3 fp f0 f1 f2 f3 hw2 hbut2 HG HX1
  obtain ⟨P1, hP1⟩ : ∃ Q, Q = P.gath t x := ⟨_, rfl⟩
  have HP1 := hid hP1
  rw [← hP1] at HG2
  have HWn := hid (wanted_any w2 b P1 HG2.out.inv)
  have HNC : Hid (¬ P1.C b (w.heap.size + 1)) := fun h => by
    rcases HG2.out.cs _ h with h1 | h1
    · have := HI.out.lt h1; omega
    · omega
  by_cases hw : P1.wants = []
  rotate_left
  · have hlen : 0 < P1.wants.length := List.length_pos_iff.2 hw
    have hlen' : (0 : Int) < (P1.wants.length : Int) := by omega
    have HH := hid hw
    clear hw hP1
    go_wp2_with (go_at_call 40; refine HWn.out.mono ?_; rintro e w3 ⟨pp, cc, rfl, hq3⟩; have HX3 := HX2.out.below hq3.bel; have z0 := HX3.cell 0; have z1 := HX3.cell 1; have z2 := HX3.cell 2; have g0 := HX3.frozen 0; have g1 := HX3.frozen 1; have g2 := HX3.frozen 2; have xl := HX3.lt; simp at z0 z1 z2)
    refine bodyPost_ret (v := .tuple #[.int .i64 1, .agg #[.int .i64 0, .int .u32 0, .slice none 0 0]]) (by simp [results, Try.results33, go_sem, z0, z1, z2]) rfl ?_
    have hbt := (((But.one w3 (w.heap.size + 1)).setAt 0 (.int .i64 0)).setAt 1 (.int .u32 0)).setAt 2 (.slice none 0 0)
    refine ⟨P1, (((QSet.same HI.out HB.out).trans HG2.out).trans (QSet.same HG2.out.inv hq3.bel)).outer hbt (by omega) ?_, fun _ => ⟨HP1.out, rfl⟩, fun h => absurd (HP1.out ▸ h) HH.out⟩
    exact HNC.out
  · have HH := hid hw
    have hlen' : ¬ (0 : Int) < (P1.wants.length : Int) := by rw [hw]; simp
    clear hw hP1
    go_upto_region 4 with (go_at_call 40; refine HWn.out.mono ?_; rintro e w3 ⟨pp, cc, rfl, hq3⟩)
    have HQ3 := hid (HG2.out.trans (QSet.same HG2.out.inv hq3.bel))
    have HX3 := hid (HX2.out.below hq3.bel)
    have hs3 := hq3.bel.size
    clear hq3 HWn HX2
    have c0 := HQ3.out.inv.box.cell 0
    have c2 := HQ3.out.inv.box.cell 2
    have bl3 := HQ3.out.inv.box.lt
    simp [Ps.arr] at c0 c2
    obtain ⟨T, hT⟩ : ∃ T : Nat, P1.tasks = (T : Int) := ⟨P1.tasks.toNat, by have := HQ3.out.inv.t0; omega⟩
    have hT0 : 1 ≤ T := by have := HQ3.out.inv.t0; omega
    have hT1 : T ≤ 12 := by have := HQ3.out.inv.t1; omega
    have hT12 : (T : Int) ≤ 12 := by omega
    have HT := hid hT
    rw [hT] at c0
    clear hT
    have HUn : Hid (∀ V, Below w3.heap.size w3 V → Calls Try.prog 30 #[.pointer (some ⟨b, 0, none⟩)] V fun e w' => e = .returned (.int .i64 P1.under) ∧ Below V.heap.size V w') := fun V hV => under_any V b P1 (HQ3.out.inv.below hV)
    have HCl : Hid (∀ V, Below w3.heap.size w3 V → Calls Try.prog 57 #[.slice (some ⟨b, 17, none⟩) T 12] V fun e w' => ∃ p c, e = .returned (.slice p T c) ∧ ClQ V P1 T p c w') := fun V hV => cloneP_any T hT0 hT1 V b P1 (HQ3.out.inv.below hV)
    go_cut [6] (fun sx wx => ∃ a pp cc, sx = .pointer (some ⟨a, 0, none⟩) ∧ ShotAt w3 P1 T a pp cc wx)
    case first =>
      refine wp_region_calmE 30 (fun wx => Below w3.heap.size w3 wx) [(0, true), (2, true), (3, true), (4, true), (5, false), (6, true), (7, true), (8, true), (9, true), (10, true), (11, true), (12, true), (13, false), (14, true)] (.two 1 true [] (.two 15 true [(16, true)] (.one 17 true [] (.one 18 false [] .done)) 17 true [] (.one 15 true [(16, true)] (.one 18 false [] .done))) 17 true [] (.one 1 true [] (.one 15 true [(16, true)] (.one 18 false [] .done)))) (by kernel_rfl) (by kernel_rfl) (Below.refl _ _).drew ?_
      refine wpPre_e rfl rfl (fun K1 hK1 => ?_)
      apply Exists.intro
      refine And.intro (fun wx hx => ?_) ?_
      · go_simp
        try rfl
      go_simp
      refine hK1 _ ?_
      clear hK1 K1
      refine wpPre_e rfl rfl (fun K1 hK1 => ?_)
      apply Exists.intro
      refine And.intro (fun wx hx => ?_) ?_
      · go_simp
        try rfl
      go_simp
      refine hK1 _ ?_
      clear hK1 K1
      refine wpPre_e rfl rfl (fun K1 hK1 => ?_)
      apply Exists.intro
      refine And.intro (fun wx hx => ?_) ?_
      · go_simp
        try rfl
      go_simp
      refine hK1 _ ?_
      clear hK1 K1
      refine wpPre_e rfl rfl (fun K1 hK1 => ?_)
      apply Exists.intro
      refine And.intro (fun wx hx => ?_) ?_
      · go_simp
        try rfl
      go_simp
      refine hK1 _ ?_
      clear hK1 K1
      refine wpPre_e rfl rfl (fun K1 hK1 => ?_)
      apply Exists.intro
      refine And.intro (fun wx hx => ?_) ?_
      · have e0 := below_fact hx rfl c0
        have e1 := below_fact hx rfl c2
        go_simp
        try rfl
      go_simp
      refine hK1 _ ?_
      clear hK1 K1
      refine wpPre_e rfl rfl (fun K1 hK1 => ?_)
      apply Exists.intro
      refine And.intro (fun wx hx => ?_) ?_
      · go_simp
        try rfl
      go_simp
      refine hK1 _ ?_
      clear hK1 K1
      refine wpPre_e rfl rfl (fun K1 hK1 => ?_)
      apply Exists.intro
      refine And.intro (fun wx hx => ?_) ?_
      · go_simp
        try rfl
      go_simp
      refine hK1 _ ?_
      clear hK1 K1
      refine wpPre_e rfl rfl (fun K1 hK1 => ?_)
      apply Exists.intro
      refine And.intro (fun wx hx => ?_) ?_
      · go_simp
        try rfl
      go_simp
      refine hK1 _ ?_
      clear hK1 K1
      refine wpPre_e rfl rfl (fun K1 hK1 => ?_)
      apply Exists.intro
      refine And.intro (fun wx hx => ?_) ?_
      · go_simp
        try rfl
      go_simp
      refine hK1 _ ?_
      clear hK1 K1
      refine wpPre_e rfl rfl (fun K1 hK1 => ?_)
      apply Exists.intro
      refine And.intro (fun wx hx => ?_) ?_
      · go_simp
        try rfl
      go_simp
      refine hK1 _ ?_
      clear hK1 K1
      refine wpPre_e rfl rfl (fun K1 hK1 => ?_)
      apply Exists.intro
      refine And.intro (fun wx hx => ?_) ?_
      · go_simp
        try rfl
      go_simp
      refine hK1 _ ?_
      clear hK1 K1
      refine wpPre_e rfl rfl (fun K1 hK1 => ?_)
      apply Exists.intro
      refine And.intro (fun wx hx => ?_) ?_
      · go_simp
        try rfl
      go_simp
      refine hK1 _ ?_
      clear hK1 K1
      refine wpPre_e rfl rfl (fun K1 hK1 => ?_)
      apply Exists.intro
      refine And.intro (fun wx hx => ?_) ?_
      · have e0 := below_fact hx rfl c0
        have e1 := below_fact hx rfl c2
        go_simp
        try rfl
      go_simp
      refine hK1 _ ?_
      clear hK1 K1
      refine wpPre_e rfl rfl (fun K1 hK1 => ?_)
      apply Exists.intro
      refine And.intro (fun wx hx => ?_) ?_
      · go_simp
        try rfl
      go_simp
      refine hK1 _ ?_
      clear hK1 K1
      refine wpPre_nil ?_
      obtain ⟨w4, hw4⟩ : ∃ X, X = w3.drew := ⟨_, rfl⟩
      have Hw4 : Hid (Below w3.heap.size w3 w4) := by rw [hw4]; exact (Below.refl _ _).drew
      rw [← hw4]
      clear hw4
      refine wpTr_two rfl rfl (fun K1 hK1 => ?_) (fun K1 hK1 => ?_)
      · refine step_call rfl 30 #[.tmp 28] _ rfl Try.f30 Try.func30 (by kernel_rfl) rfl #[.pointer (some ⟨b, 0, none⟩)] rfl _ (HUn.out _ Hw4.out) (fun e w14 hN => ?_)
        obtain ⟨rfl, hbN⟩ := hN
        have Hw14 := hid (Hw4.out.trans (hbN.mono Hw4.out.size))
        clear hbN
        refine ⟨_, rfl, ?_⟩
        go_simp
        refine hK1 _ _ (fun _ => Hw14.out) ?_
        clear hK1 K1
        refine wpPre_nil ?_
        refine wpTr_two rfl rfl (fun K1 hK1 => ?_) (fun K1 hK1 => ?_)
        · refine step_call rfl 57 #[.tmp 42] _ rfl Try.f57 Try.func57 (by kernel_rfl) rfl #[.slice (some ⟨b, 17, none⟩) T 12] rfl _ (HCl.out _ Hw14.out) (fun e w15 hN => ?_)
          obtain ⟨pq, cq, rfl, hq⟩ := hN
          have hbN := hq.bel
          have Hw15 := hid (Hw14.out.trans (hbN.mono Hw14.out.size))
          have HOw15 := hid (own_low hq.own Hw14.out.size)
          clear hbN hq
          refine ⟨_, rfl, ?_⟩
          go_simp
          refine hK1 _ _ (fun _ => Hw15.out) ?_
          clear hK1 K1
          refine wpPre_e rfl rfl (fun K1 hK1 => ?_)
          apply Exists.intro
          refine And.intro (fun wx hx => ?_) ?_
          · go_simp
            try rfl
          go_simp
          refine hK1 _ ?_
          clear hK1 K1
          refine wpPre_nil ?_
          refine wpTr_e rfl (fun K1 hK1 => ?_)
          have hbN : Below w15.heap.size w15 (w15.alloc (.cells #[.int .i64 0, .int .u32 0, .slice none 0 0] 48)) := (Below.refl _ _).alloc (Nat.le_refl _) _
          obtain ⟨w16, hwN⟩ : ∃ X, X = w15.alloc (.cells #[.int .i64 0, .int .u32 0, .slice none 0 0] 48) := ⟨_, rfl⟩
          rw [← hwN] at hbN
          have Hw16 := hid (Hw15.out.trans (hbN.mono Hw15.out.size))
          have HSw16 : Hid (Box w16 w15.heap.size #[.int .i64 0, .int .u32 0, .slice none 0 0] 48) := by rw [hwN]; exact Box.new _ _ _
          have hlo := Hw15.out.size
          have HOw16 := hid (ownsRow_keep HOw15.out (fun k hk hl => hbN.block k hl))
          go_simp
          rw [← hwN]
          refine hK1 _ _ (fun _ => Hw16.out) ?_
          clear hK1 K1 hbN hwN
          refine wpPre_nil ?_
          refine wpTr_e rfl (fun K1 hK1 => ?_)
          have z0 := HSw16.out.cell 0
          have z1 := HSw16.out.cell 1
          have z2 := HSw16.out.cell 2
          have g0 := HSw16.out.frozen 0
          have g1 := HSw16.out.frozen 1
          have g2 := HSw16.out.frozen 2
          have xl := HSw16.out.lt
          simp at z0 z1 z2
          go_simp
          refine hK1 _ _ (fun h => by cases h) ?_
          clear hK1 K1
          refine wpPre_nil ?_
          refine wpTr_done ?_
          go_wp2_with fail
          go_meet
          have hbt := (((But.one w16 (w15.heap.size)).setAt 0 (.int .i64 P1.under)).setAt 1 (.int .u32 P1.sum)).setAt 2 (.slice pq T cq)
          exact ⟨w15.heap.size, pq, cq, rfl, hlo, ((HSw16.out.set 0 (.int .i64 P1.under)).set 1 (.int .u32 P1.sum)).set 2 (.slice pq T cq), Hw16.out.trans (hbt.below Hw16.out.size (fun k hk e => by omega)), ownsRow_keep HOw16.out (fun k hk hl => hbt.block k hl (fun e => own_ne_box HOw16.out HSw16.out (by decide) (by rw [← e]; exact hk)))⟩
        · have hbN : Below w14.heap.size w14 (w14.alloc (.cells #[.int .i64 0, .int .u32 0, .slice none 0 0] 48)) := (Below.refl _ _).alloc (Nat.le_refl _) _
          obtain ⟨w17, hwN⟩ : ∃ X, X = w14.alloc (.cells #[.int .i64 0, .int .u32 0, .slice none 0 0] 48) := ⟨_, rfl⟩
          rw [← hwN] at hbN
          have Hw17 := hid (Hw14.out.trans (hbN.mono Hw14.out.size))
          have HSw17 : Hid (Box w17 w14.heap.size #[.int .i64 0, .int .u32 0, .slice none 0 0] 48) := by rw [hwN]; exact Box.new _ _ _
          have hlo := Hw14.out.size
          go_simp
          rw [← hwN]
          refine hK1 _ _ (fun _ => Hw17.out) ?_
          clear hK1 K1 hbN hwN
          refine wpPre_nil ?_
          refine wpTr_e rfl (fun K1 hK1 => ?_)
          refine step_call rfl 57 #[.tmp 42] _ rfl Try.f57 Try.func57 (by kernel_rfl) rfl #[.slice (some ⟨b, 17, none⟩) T 12] rfl _ (HCl.out _ Hw17.out) (fun e w18 hN => ?_)
          obtain ⟨pq, cq, rfl, hq⟩ := hN
          have hbN := hq.bel
          have Hw18 := hid (Hw17.out.trans (hbN.mono Hw17.out.size))
          have HOw18 := hid (own_low hq.own Hw17.out.size)
          have HSw18 := hid (HSw17.out.below hbN)
          clear hbN hq
          refine ⟨_, rfl, ?_⟩
          go_simp
          refine hK1 _ _ (fun _ => Hw18.out) ?_
          clear hK1 K1
          refine wpPre_e rfl rfl (fun K1 hK1 => ?_)
          apply Exists.intro
          refine And.intro (fun wx hx => ?_) ?_
          · go_simp
            try rfl
          go_simp
          refine hK1 _ ?_
          clear hK1 K1
          refine wpPre_nil ?_
          refine wpTr_e rfl (fun K1 hK1 => ?_)
          have z0 := HSw18.out.cell 0
          have z1 := HSw18.out.cell 1
          have z2 := HSw18.out.cell 2
          have g0 := HSw18.out.frozen 0
          have g1 := HSw18.out.frozen 1
          have g2 := HSw18.out.frozen 2
          have xl := HSw18.out.lt
          simp at z0 z1 z2
          go_simp
          refine hK1 _ _ (fun h => by cases h) ?_
          clear hK1 K1
          refine wpPre_nil ?_
          refine wpTr_done ?_
          go_wp2_with fail
          go_meet
          have hbt := (((But.one w18 (w14.heap.size)).setAt 0 (.int .i64 P1.under)).setAt 1 (.int .u32 P1.sum)).setAt 2 (.slice pq T cq)
          exact ⟨w14.heap.size, pq, cq, rfl, hlo, ((HSw18.out.set 0 (.int .i64 P1.under)).set 1 (.int .u32 P1.sum)).set 2 (.slice pq T cq), Hw18.out.trans (hbt.below Hw18.out.size (fun k hk e => by omega)), ownsRow_keep HOw18.out (fun k hk hl => hbt.block k hl (fun e => own_ne_box HOw18.out HSw18.out (by decide) (by rw [← e]; exact hk)))⟩
      · have hbN : Below w4.heap.size w4 (w4.alloc (.cells #[.int .i64 0, .int .u32 0, .slice none 0 0] 48)) := (Below.refl _ _).alloc (Nat.le_refl _) _
        obtain ⟨w19, hwN⟩ : ∃ X, X = w4.alloc (.cells #[.int .i64 0, .int .u32 0, .slice none 0 0] 48) := ⟨_, rfl⟩
        rw [← hwN] at hbN
        have Hw19 := hid (Hw4.out.trans (hbN.mono Hw4.out.size))
        have HSw19 : Hid (Box w19 w4.heap.size #[.int .i64 0, .int .u32 0, .slice none 0 0] 48) := by rw [hwN]; exact Box.new _ _ _
        have hlo := Hw4.out.size
        go_simp
        rw [← hwN]
        refine hK1 _ _ (fun _ => Hw19.out) ?_
        clear hK1 K1 hbN hwN
        refine wpPre_nil ?_
        refine wpTr_e rfl (fun K1 hK1 => ?_)
        refine step_call rfl 30 #[.tmp 28] _ rfl Try.f30 Try.func30 (by kernel_rfl) rfl #[.pointer (some ⟨b, 0, none⟩)] rfl _ (HUn.out _ Hw19.out) (fun e w20 hN => ?_)
        obtain ⟨rfl, hbN⟩ := hN
        have Hw20 := hid (Hw19.out.trans (hbN.mono Hw19.out.size))
        have HSw20 := hid (HSw19.out.below hbN)
        clear hbN
        refine ⟨_, rfl, ?_⟩
        go_simp
        refine hK1 _ _ (fun _ => Hw20.out) ?_
        clear hK1 K1
        refine wpPre_nil ?_
        refine wpTr_e rfl (fun K1 hK1 => ?_)
        refine step_call rfl 57 #[.tmp 42] _ rfl Try.f57 Try.func57 (by kernel_rfl) rfl #[.slice (some ⟨b, 17, none⟩) T 12] rfl _ (HCl.out _ Hw20.out) (fun e w21 hN => ?_)
        obtain ⟨pq, cq, rfl, hq⟩ := hN
        have hbN := hq.bel
        have Hw21 := hid (Hw20.out.trans (hbN.mono Hw20.out.size))
        have HOw21 := hid (own_low hq.own Hw20.out.size)
        have HSw21 := hid (HSw20.out.below hbN)
        clear hbN hq
        refine ⟨_, rfl, ?_⟩
        go_simp
        refine hK1 _ _ (fun _ => Hw21.out) ?_
        clear hK1 K1
        refine wpPre_e rfl rfl (fun K1 hK1 => ?_)
        apply Exists.intro
        refine And.intro (fun wx hx => ?_) ?_
        · go_simp
          try rfl
        go_simp
        refine hK1 _ ?_
        clear hK1 K1
        refine wpPre_nil ?_
        refine wpTr_e rfl (fun K1 hK1 => ?_)
        have z0 := HSw21.out.cell 0
        have z1 := HSw21.out.cell 1
        have z2 := HSw21.out.cell 2
        have g0 := HSw21.out.frozen 0
        have g1 := HSw21.out.frozen 1
        have g2 := HSw21.out.frozen 2
        have xl := HSw21.out.lt
        simp at z0 z1 z2
        go_simp
        refine hK1 _ _ (fun h => by cases h) ?_
        clear hK1 K1
        refine wpPre_nil ?_
        refine wpTr_done ?_
        go_wp2_with fail
        go_meet
        have hbt := (((But.one w21 (w4.heap.size)).setAt 0 (.int .i64 P1.under)).setAt 1 (.int .u32 P1.sum)).setAt 2 (.slice pq T cq)
        exact ⟨w4.heap.size, pq, cq, rfl, hlo, ((HSw21.out.set 0 (.int .i64 P1.under)).set 1 (.int .u32 P1.sum)).set 2 (.slice pq T cq), Hw21.out.trans (hbt.below Hw21.out.size (fun k hk e => by omega)), ownsRow_keep HOw21.out (fun k hk hl => hbt.block k hl (fun e => own_ne_box HOw21.out HSw21.out (by decide) (by rw [← e]; exact hk)))⟩
    case rest =>
      obtain ⟨a, pq, cq, rfl, hS⟩ := hcut
      have HS := hid hS
      have HQc := hid (HQ3.out.trans (QSet.same HQ3.out.inv hS.bel))
      have HXc := hid (HX3.out.below hS.bel)
      have hsc := hS.bel.size
      have halo := hS.lo
      clear hS HUn HCl c0 c2 HX3
      have hn1 : 0 < P1.sts.n := by rw [HP1.out]; exact hn
      have HNA : Hid (¬ P1.C b a) := fun h => by have := HQ3.out.inv.lt h; omega
      have HEn := hid (end_any 2 ⟨by omega, by omega⟩ wc b P1 HQc.out.inv hn1)
      go_upto_region 6 with (go_at_call 35; refine HEn.out.mono ?_; rintro e w6 ⟨rfl, hq6⟩)
      have hba : Box w6 a #[.int .i64 P1.under, .int .u32 P1.sum, .slice pq T cq] 48 := HS.out.box.kept (hq6.but.block a HS.out.box.lt HNA.out)
      have hbx : Box w6 (w.heap.size + 1) #[.int .i64 0, .int .u32 0, .slice none 0 0] 48 := HXc.out.kept (hq6.but.block _ HXc.out.lt HNC.out)
      have HO6 := hid (ownsRow_keep HS.out.own (fun k hk hl => hq6.but.block k hl (fun e => by have := HQ3.out.inv.lt e; have := (HS.out.own.lt k hk).1; omega)))
      have HQ6 := hid hq6
      have s0 := hba.cell 0
      have s1 := hba.cell 1
      have s2 := hba.cell 2
      have z0 := hbx.cell 0
      have z1 := hbx.cell 1
      have z2 := hbx.cell 2
      have g0 := hbx.frozen 0
      have g1 := hbx.frozen 1
      have g2 := hbx.frozen 2
      have al := hba.lt
      have xl := hbx.lt
      simp at s0 s1 s2 z0 z1 z2
      clear hba hbx hq6 HEn
      refine wp_region_calmE 30 (fun wx => Below w6.heap.size w6 wx) [(0, false), (1, true)] (.one 2 false [] .done) (by kernel_rfl) (by kernel_rfl) (Below.refl _ _).drew ?_
      refine wpPre_e rfl rfl (fun K1 hK1 => ?_)
      apply Exists.intro
      refine And.intro (fun wx hx => ?_) ?_
      · have e0 := below_fact hx rfl s0
        have e1 := below_fact hx rfl s1
        have e2 := below_fact hx rfl s2
        go_simp
        try rfl
      go_simp
      refine hK1 _ ?_
      clear hK1 K1
      refine wpPre_e rfl rfl (fun K1 hK1 => ?_)
      apply Exists.intro
      refine And.intro (fun wx hx => ?_) ?_
      · go_simp
        try rfl
      go_simp
      refine hK1 _ ?_
      clear hK1 K1
      refine wpPre_nil ?_
      refine wpTr_e rfl (fun K1 hK1 => ?_)
      go_simp
      refine hK1 _ _ (fun h => by cases h) ?_
      clear hK1 K1
      refine wpPre_nil ?_
      refine wpTr_done ?_
      go_wp2
      refine bodyPost_ret (v := .tuple #[.int .i64 2, .agg #[.int .i64 P1.under, .int .u32 P1.sum, .slice pq T cq]]) (by simp [results, Try.results33, go_sem, z0, z1, z2]) rfl ?_
      have hbt := ((((But.one w6 (w.heap.size + 1)).setAt 0 (.int .i64 P1.under)).setAt 1 (.int .u32 P1.sum)).setAt 2 (.slice pq T cq)).drew
      have hsu : P1.under = P.under := by rw [HP1.out]; rfl
      have hsm : P1.sum = P.sum := by rw [HP1.out]; rfl
      refine ⟨P1.fin 2, ((((QSet.same HI.out HB.out).trans HQc.out).trans HQ6.out).outer hbt (by omega) HNC.out), fun h => absurd HH.out (by rw [HP1.out]; exact h), fun _ => ⟨by rw [HP1.out], pq, cq, T, ?_, ?_, ?_⟩⟩
      · have := HT.out; rw [HP1.out] at this; exact this
      · rw [hsu, hsm]
      · rw [← HP1.out]
        exact own_low (ownsRow_keep HO6.out (fun k hk hl => hbt.block k hl (fun e => by have := (HO6.out.lt k hk).1; omega))) (by omega)
end Go.Proofs.Ytldkepokcbjlpaa
