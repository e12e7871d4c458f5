import Derived.Test.YtckopbkhpbhljaaDlL
import Derived.Test.YtckopbkhpbhljaaPack35
namespace Go.Proofs.Ytckopbkhpbhljaa
open Go.RowKit
set_option maxRecDepth 8000
attribute [local go_sem] Oper.semAt_some
/-- a row that is laid longer beside others, and its variable set -/
theorem push_core {α : Type} {E : El α} {w : World} {B b0 i : Nat} {t0 : TypeId} {T : TypeId → Prop} {W W2 : World} {cs : Array Value} {xs : List α} {v v' : Value} {x : α} {o : Obj} (hbx : Box W b0 cs t0) (hown : W.ownsRow B E.ty E.size v xs.length (xs.flatMap E.cells)) (hbel : Below w.heap.size w W) (hsz : B ≤ W.heap.size)
    (hT : ¬ T E.ty) (hb : b0 < B) (hw : w.heap.size ≤ b0) (ho : W2.ownsRow B E.ty E.size v' (xs.length + 1) (xs.flatMap E.cells ++ E.cells x)) (hg : (W.alloc o).grownBy W2 v.ownBlock) :
    KeepB B T b0 W (W2.setCell ⟨b0, i, none⟩ v') ∧ Box W2 b0 cs t0 ∧ Box (W2.setCell ⟨b0, i, none⟩ v') b0 (cs.setIfInBounds i v') t0 ∧ (W2.setCell ⟨b0, i, none⟩ v').ownsRow B E.ty E.size v' (xs ++ [x]).length ((xs ++ [x]).flatMap E.cells) ∧
      (∀ {e : TypeId} {s : Nat} {u : Value} {n : Nat} {ys : List Value}, e ≠ E.ty → W.ownsRow B e s u n ys → (W2.setCell ⟨b0, i, none⟩ v').ownsRow B e s u n ys) ∧ Below w.heap.size w (W2.setCell ⟨b0, i, none⟩ v') ∧ B ≤ (W2.setCell ⟨b0, i, none⟩ v').heap.size := by
  have hs2 := hg.size
  simp only [World.size_alloc] at hs2
  have hkeep : ∀ k, k < W.heap.size → k ≠ b0 → v.ownBlock ≠ some k → (W2.setCell ⟨b0, i, none⟩ v').heap[k]? = W.heap[k]? := fun k hk hn hv =>
    ((Below.heap_setCell _ _ _ _ hn).trans (hg.block k (by simp; omega) (fun e => hv e.symm))).trans (Below.heap_alloc _ _ _ hk)
  have hlt : ∀ (k : Nat) (o : Obj), W.heap[k]? = some o → k < W.heap.size := fun k o h => (Array.getElem?_eq_some_iff.1 h).1
  have hvb : v.ownBlock ≠ some b0 := fun e => by obtain ⟨_, _, h⟩ := own_tag hown e; omega
  have hvb' : v'.ownBlock ≠ some b0 := fun e => by obtain ⟨_, _, h⟩ := own_tag ho e; omega
  have hbx2 : Box W2 b0 cs t0 := (hbx.kept (Below.heap_alloc _ _ _ hbx.lt)).kept (hg.block b0 (by simp; have := hbx.lt; omega) (fun e => hvb e.symm))
  have hbt : But (fun k => k = b0) W2 (W2.setCell ⟨b0, i, none⟩ v') := (But.one W2 b0).setAt i v'
  have hvs : v.ownBlock = none ∨ ∃ g, v.ownBlock = some g := by cases v.ownBlock <;> simp
  refine ⟨⟨⟨by simp [World.setCell]; omega, fun k hk hl hn => hkeep k hl hn fun e => ?_, fun k c t hk hc ht => (hkeep k (hlt k _ hc) (by omega) fun e => ?_).trans hc⟩, fun k o' hk ho' hc => (hkeep k (hlt k _ ho') (by omega) fun e => ?_).trans ho'⟩, hbx2, hbx2.set i v', ?_, fun {e s u n ys} hne hu => ownsRow_keep hu fun k hk hl => hkeep k hl (fun e => ?_) fun e => ?_, ?_, by simp [World.setCell]; omega⟩
  · obtain ⟨_, _, h⟩ := own_tag hown e; omega
  · exact own_okTN hown hT e hc (.inl ⟨c, t, rfl, ht⟩)
  · exact own_okTN hown hT e ho' (.inr hc)
  · have e1 : (xs ++ [x]).flatMap E.cells = xs.flatMap E.cells ++ E.cells x := by simp
    rw [e1, List.length_append]
    exact ownsRow_keep ho fun k hk hl => hbt.block k hl fun e => hvb' (e ▸ hk)
  · obtain ⟨_, _, h⟩ := own_tag hu hk; omega
  · obtain ⟨c1, h1, _⟩ := own_tag hu hk
    obtain ⟨c2, h2, _⟩ := own_tag hown e
    rw [h1] at h2
    cases h2
    exact hne rfl
  · refine ⟨hbt.os.trans (hg.os.trans hbel.os), hbt.tape.trans (hg.tape.trans hbel.tape), hbt.output.trans (hg.output.trans hbel.output), by have := hbel.size; simp [World.setCell]; omega, fun k hk => ?_⟩
    have := hbel.size
    refine (hkeep k (by omega) (by omega) fun e => ?_).trans (hbel.block k hk)
    obtain ⟨_, _, h⟩ := own_tag hown e; omega
/-- the delta that Diff fills -/
structure DRow (w : World) (B b0 : Nat) (num : Int) (W : World) (xs : List VT) (ys : List ByteArray) : Prop where
  ex : ∃ vS vG, Box W b0 #[.int .i64 num, vS, vG] 30 ∧ W.ownsRow B elCell.ty elCell.size vS xs.length (xs.flatMap elCell.cells) ∧ W.ownsRow B elStr.ty elStr.size vG ys.length (ys.flatMap elStr.cells)
  bel : Below w.heap.size w W
  sz : B ≤ W.heap.size
theorem DRow.ab {β : Type} {w : World} {B b0 : Nat} {num : Int} {T : TypeId → Prop} (f : β → List VT) (g : β → List ByteArray) (h1 : ¬ T elCell.ty) (h2 : ¬ T elStr.ty) (hb : b0 < B) (hw : w.heap.size ≤ B) : Ab B (okTN T) (fun s W => DRow w B b0 num W (f s) (g s)) := by
  rintro s W W' X ⟨⟨vS, vG, hbx, hs, hg⟩, hbel, hsz⟩ hbt hx
  refine ⟨⟨vS, vG, hbx.but hbt fun e => ?_, ownsRow_keep hs fun k hk hl => hbt.block k hl fun e => ?_, ownsRow_keep hg fun k hk hl => hbt.block k hl fun e => ?_⟩, hbel.trans (hbt.below hbel.size fun k hk e => ?_), Nat.le_trans hsz hbt.size⟩
  · have := (hx b0 hbx.lt e).1; omega
  · obtain ⟨_, o, h3, h4⟩ := hx k hl e
    exact own_okTN hs h1 hk h3 h4
  · obtain ⟨_, o, h3, h4⟩ := hx k hl e
    exact own_okTN hg h2 hk h3 h4
  · have := (hx k (by have := hbel.size; omega) e).1; omega
def dSet (pre : List (Ev VT VT)) : List VT := (pre.filter fun x => x.inB && (!x.inA || !eqV x.a x.b)).map fun x => x.b
def dGone (pre : List (Ev VT VT)) : List ByteArray := (pre.filter fun x => !x.inB).map fun x => x.key
theorem dSet_le (pre : List (Ev VT VT)) : (dSet pre).length ≤ pre.length := by simp [dSet, List.length_filter_le]
theorem dGone_le (pre : List (Ev VT VT)) : (dGone pre).length ≤ pre.length := by simp [dGone, List.length_filter_le]
/-- what two lists of cells come to -/
def dEv (a b : LT VT) : List (Ev VT VT) := mrgF VT.text VT.text zC zC (a.n + b.n) a.toL b.toL
theorem dSet_b {a b : LT VT} (h : b.n ≤ 10000) : (dSet (dEv a b)).length ≤ 10000 := by
  have h1 : ∀ (f : Nat) (xs ys : List VT), (dSet (mrgF VT.text VT.text zC zC f xs ys)).length ≤ ys.length := by
    intro f
    induction f with
    | zero => intro xs ys; simp [mrgF, dSet]
    | succ f ih =>
      intro xs ys
      unfold mrgF
      split
      · simp [dSet]
      · have h2 := ih (nxA VT.text VT.text xs ys) (nxB VT.text VT.text xs ys)
        have e : dSet (evL VT.text VT.text zC zC xs ys :: mrgF VT.text VT.text zC zC f (nxA VT.text VT.text xs ys) (nxB VT.text VT.text xs ys)) = dSet [evL VT.text VT.text zC zC xs ys] ++ dSet (mrgF VT.text VT.text zC zC f (nxA VT.text VT.text xs ys) (nxB VT.text VT.text xs ys)) := by
          unfold dSet
          rw [← List.map_append, ← List.filter_append]; rfl
        rw [e, List.length_append]
        cases hh : hitL VT.text ys (lkL VT.text VT.text xs ys) with
        | false =>
          have e1 : dSet [evL VT.text VT.text zC zC xs ys] = [] := by simp [dSet, evL, hh]
          have e2 : nxB VT.text VT.text xs ys = ys := by unfold nxB; rw [hh]; cases ys <;> rfl
          rw [e1]; rw [e2] at h2; rw [e2]; simpa using h2
        | true =>
          have e1 : (dSet [evL VT.text VT.text zC zC xs ys]).length ≤ 1 := dSet_le _
          cases ys with
          | nil => simp [hitL] at hh
          | cons y ys =>
            have e2 : nxB VT.text VT.text xs (y :: ys) = ys := by unfold nxB; rw [hh]; rfl
            rw [e2] at h2 ⊢
            simp only [List.length_cons]
            omega
  have := h1 (a.n + b.n) a.toL b.toL
  rw [LT.toL_len] at this
  exact Nat.le_trans this h
theorem dGone_b {a b : LT VT} (h : a.n ≤ 10000) : (dGone (dEv a b)).length ≤ 10000 := by
  have h1 : ∀ (f : Nat) (xs ys : List VT), (dGone (mrgF VT.text VT.text zC zC f xs ys)).length ≤ xs.length := by
    intro f
    induction f with
    | zero => intro xs ys; simp [mrgF, dGone]
    | succ f ih =>
      intro xs ys
      unfold mrgF
      split
      · simp [dGone]
      · rename_i hne
        have h2 := ih (nxA VT.text VT.text xs ys) (nxB VT.text VT.text xs ys)
        have e : dGone (evL VT.text VT.text zC zC xs ys :: mrgF VT.text VT.text zC zC f (nxA VT.text VT.text xs ys) (nxB VT.text VT.text xs ys)) = dGone [evL VT.text VT.text zC zC xs ys] ++ dGone (mrgF VT.text VT.text zC zC f (nxA VT.text VT.text xs ys) (nxB VT.text VT.text xs ys)) := by
          unfold dGone
          rw [← List.map_append, ← List.filter_append]; rfl
        rw [e, List.length_append]
        cases hh : hitL VT.text xs (lkL VT.text VT.text xs ys) with
        | false =>
          have e2 : nxA VT.text VT.text xs ys = xs := by unfold nxA; rw [hh]; cases xs <;> rfl
          have hm := (mrg_mem VT.text VT.text zC zC (f + 1) xs ys (evL VT.text VT.text zC zC xs ys) (by unfold mrgF; rw [if_neg hne]; simp)).2.2
          have hb : (evL VT.text VT.text zC zC xs ys).inB = true := hm.resolve_left (by show ¬ hitL VT.text xs (lkL VT.text VT.text xs ys) = true; rw [hh]; simp)
          have e1 : dGone [evL VT.text VT.text zC zC xs ys] = [] := by simp [dGone, hb]
          rw [e1]; rw [e2] at h2; rw [e2]; simpa using h2
        | true =>
          have e1 : (dGone [evL VT.text VT.text zC zC xs ys]).length ≤ 1 := dGone_le _
          cases xs with
          | nil => simp [hitL] at hh
          | cons y xs =>
            have e2 : nxA VT.text VT.text (y :: xs) ys = xs := by unfold nxA; rw [hh]; rfl
            rw [e2] at h2 ⊢
            simp only [List.length_cons]
            omega
  have := h1 (a.n + b.n) a.toL b.toL
  rw [LT.toL_len] at this
  exact Nat.le_trans this h
def diffE (an : Int) (a : LT VT) (bn : Int) (b : LT VT) : Nat := if chkState ⟨an, a.p, a.n, a.c, a.item⟩ ≠ 0 then chkState ⟨an, a.p, a.n, a.c, a.item⟩ else chkState ⟨bn, b.p, b.n, b.c, b.item⟩
set_option maxRecDepth 60000 in
set_option maxHeartbeats 16000000 in
/-- Diff -/
theorem diff_any (an : Int) (a : LT VT) (bn : Int) (b : LT VT) (w : World) (S : Nat → Prop) (ha : LT.In elCell w S a) (ha0 : -9223372036854775808 ≤ an) (ha1 : an ≤ 9223372036854775807) (hb : LT.In elCell w S b) (hb0 : -9223372036854775808 ≤ bn) (hb1 : bn ≤ 9223372036854775807) (hS : ∀ k, S k → k < w.heap.size) (hn : a.n ≤ 10000 ∧ b.n ≤ 10000) (ht : ∀ j, j < b.n → (b.item j).total ≤ 10000) (hk : ∀ x ∈ dEv a b, x.key.size ≤ 140737488355328) :
    Calls Try.prog 12 #[.agg #[.int .i64 an, .slice a.p a.n a.c], .agg #[.int .i64 bn, .slice b.p b.n b.c]] w fun r w' => Below w.heap.size w w' ∧ (diffE an a bn b ≠ 0 → r = .returned (.tuple #[.agg #[.int .i64 0, .slice none 0 0, .slice none 0 0], .int .i64 (diffE an a bn b : Int)])) ∧ (diffE an a bn b = 0 → ∃ u : DT, r = .returned (.tuple #[.agg #[.int .i64 u.num, .slice u.set.p u.set.n u.set.c, .slice u.gone.p u.gone.n u.gone.c], .int .i64 0]) ∧ DT.Alike ⟨bn, ltOf none 0 zC (dSet (dEv a b)), ltOf none 0 (⟨#[]⟩ : ByteArray) (dGone (dEv a b))⟩ u ∧ DT.In w' (fun k => w.heap.size ≤ k) u) := by
  obtain ⟨er, her⟩ : ∃ x, x = diffE an a bn b := ⟨_, rfl⟩
  rw [← her]
  obtain ⟨W, hW⟩ : ∃ V, V = ((w.alloc (.cells #[.int .i64 an, .slice a.p a.n a.c] 24)).alloc (.cells #[.int .i64 bn, .slice b.p b.n b.c] 24)).alloc (.cells #[.int .i64 0, .slice none 0 0, .slice none 0 0] 30) := ⟨_, rfl⟩
  have hB : Below w.heap.size w W := by rw [hW]; exact (((Below.refl _ _).alloc (Nat.le_refl _) _).alloc (by simp) _).alloc (by simp; omega) _
  have hx0 : Box W w.heap.size #[.int .i64 an, .slice a.p a.n a.c] 24 := by
    rw [hW]; exact ((Box.new w _ _).below ((Below.refl _ _).alloc (Nat.le_refl _) _)).below ((Below.refl _ _).alloc (Nat.le_refl _) _)
  have hx1 : Box W (w.heap.size + 1) #[.int .i64 bn, .slice b.p b.n b.c] 24 := by
    have h := Box.new (w.alloc (.cells #[.int .i64 an, .slice a.p a.n a.c] 24)) #[.int .i64 bn, .slice b.p b.n b.c] 24
    rw [show (w.alloc (.cells #[.int .i64 an, .slice a.p a.n a.c] 24)).heap.size = w.heap.size + 1 by simp] at h
    rw [hW]; exact h.below ((Below.refl _ _).alloc (Nat.le_refl _) _)
  have hx2 : Box W (w.heap.size + 2) #[.int .i64 0, .slice none 0 0, .slice none 0 0] 30 := by
    have h := Box.new ((w.alloc (.cells #[.int .i64 an, .slice a.p a.n a.c] 24)).alloc (.cells #[.int .i64 bn, .slice b.p b.n b.c] 24)) #[.int .i64 0, .slice none 0 0, .slice none 0 0] 30
    rw [show ((w.alloc (.cells #[.int .i64 an, .slice a.p a.n a.c] 24)).alloc (.cells #[.int .i64 bn, .slice b.p b.n b.c] 24)).heap.size = w.heap.size + 2 by simp] at h
    rw [hW]; exact h
  have HF : Hid (Calls Try.prog 31 #[.func (.func 30) #[] #[], .agg #[.int .i64 an, .slice a.p a.n a.c], .agg #[.int .i64 bn, .slice b.p b.n b.c]] W fun e w' => e = .returned (.int .i64 (er : Int)) ∧ Below W.heap.size W w') := first_St ⟨an, a.p, a.n, a.c, a.item⟩ ⟨bn, b.p, b.n, b.c, b.item⟩ W S (LT.toST (ha.below hB) ha0 ha1) (LT.toST (hb.below hB) hb0 hb1) (fun k hk => Nat.lt_of_lt_of_le (hS k hk) hB.size) er her
  have HB := hid hB
  have HW := hid hW
  have HX0 := hid hx0
  have HX1 := hid hx1
  have HX2 := hid hx2
  have HA := hid ha
  have HLb := hid hb
  have HS := hid hS
  have HT := hid ht
  have HKy := hid hk
  have a0 := hx0.cell 0
  have a1 := hx0.cell 1
  have al := hx0.lt
  have b0 := hx1.cell 0
  have b1 := hx1.cell 1
  have bl := hx1.lt
  simp at a0 a1 b0 b1
  clear ha hb hS ht hB hW hx0 hx1 hx2 her hk
  refine (callsIn_wide (n := 0)).1 ?_
  refine callsIn_of_wp_marks Try.func12 rfl trivial ?_ rfl
  simp only [Try.ntmps12, List.size_toArray, List.length_cons, List.length_nil, Nat.reduceAdd, Nat.reduceSub, Array.replicate_succ, Array.replicate_zero, List.push_toArray, List.append_toArray, List.nil_append, List.cons_append]
  refine wpIn_wide.2 ?_
  go_upto_region 1 with fail
  rw [← HW.out]
  obtain ⟨c2, hc2⟩ : ∃ x, x = w.heap.size + 1 + 1 := ⟨_, rfl⟩
  rw [← hc2]
  have HC2 : Hid (c2 = w.heap.size + 2) := hc2
  clear hc2
  go_wp2_with fail
  refine HF.out.mono ?_
  rintro r w1 ⟨rfl, hb1⟩
  have HB1 := hid hb1
  have HBa : Hid (Below w.heap.size w w1) := HB.out.trans (hb1.mono HB.out.size)
  have HZ : Hid (Box w1 c2 #[.int .i64 0, .slice none 0 0, .slice none 0 0] 30) := by have hz := HX2.out.below hb1; rw [← HC2.out] at hz; exact hz
  clear hb1 a0 a1 al b0 b1 bl HF
  by_cases hc : er = 0
  · have hc1 : ((er : Int) != 0) = false := by simp [hc]
    have hxb := HX1.out.below HB1.out
    have b0 := hxb.cell 0
    have bl := hxb.lt
    simp at b0
    have HC0 := hid hc
    clear hc hxb
    go_upto_region 5 with fail
    obtain ⟨w4, hw4⟩ : ∃ V, V = w1.alloc (.cells #[.int .i64 bn, .slice none 0 0, .slice none 0 0] 30) := ⟨_, rfl⟩
    rw [← hw4]
    have hb4 : Below w1.heap.size w1 w4 := by rw [hw4]; exact (Below.refl _ _).alloc (Nat.le_refl _) _
    have hx7 : Box w4 w1.heap.size #[.int .i64 bn, .slice none 0 0, .slice none 0 0] 30 := by rw [hw4]; exact Box.new _ _ _
    obtain ⟨c7, hc7⟩ : ∃ x, x = w1.heap.size := ⟨_, rfl⟩
    rw [← hc7] at hx7 ⊢
    have HC7 := hid hc7
    have HB4 := hid hb4
    have HX7 := hid hx7
    have hxa := (HX0.out.below HB1.out).below hb4
    have hxb := (HX1.out.below HB1.out).below hb4
    have a1 := hxa.cell 1
    have al := hxa.lt
    have b1 := hxb.cell 1
    have bl4 := hxb.lt
    simp at a1 b1
    clear hw4 hb4 hx7 hc7 hxa hxb b0 bl
    refine wp_region_calmE 30 (fun wx => Below w4.heap.size w4 wx) [(0, true), (1, false), (3, true), (4, false)] (.one 2 true [] (.one 5 true [] (.one 6 false [] .done))) (by kernel_rfl) (by kernel_rfl) (Below.refl _ _).drew ?_
    refine wpPre_e rfl rfl (fun K1 hK1 => ?_)
    apply Exists.intro
    refine And.intro (fun wx hx => ?_) ?_
    · go_simp
      try rfl
    go_simp
    refine hK1 _ ?_
    clear hK1 K1
    refine wpPre_e rfl rfl (fun K1 hK1 => ?_)
    apply Exists.intro
    refine And.intro (fun wx hx => ?_) ?_
    · have e0 := below_fact hx rfl a1
      have e1 := below_fact hx rfl b1
      go_simp
      try rfl
    go_simp
    refine hK1 _ ?_
    clear hK1 K1
    refine wpPre_e rfl rfl (fun K1 hK1 => ?_)
    apply Exists.intro
    refine And.intro (fun wx hx => ?_) ?_
    · go_simp
      try rfl
    go_simp
    refine hK1 _ ?_
    clear hK1 K1
    refine wpPre_e rfl rfl (fun K1 hK1 => ?_)
    apply Exists.intro
    refine And.intro (fun wx hx => ?_) ?_
    · have e0 := below_fact hx rfl a1
      have e1 := below_fact hx rfl b1
      go_simp
      try rfl
    go_simp
    refine hK1 _ ?_
    clear hK1 K1
    refine wpPre_nil ?_
    refine wpTr_e rfl (fun K1 hK1 => ?_)
    rw [if_pos (by go_simp)]
    refine step_callT 33 (.func 33) #[.tmp 21] _ rfl rfl Try.f33 Try.func33 (by kernel_rfl) rfl #[.slice a.p a.n a.c] rfl _ (mk_C a.p a.n a.c _) (fun e w5 h4 => ?_)
    obtain ⟨rfl, hb5⟩ := h4
    have H5 : Hid (Below w4.heap.size w4 w5) := ((Below.refl _ w4).drew).trans hb5
    clear hb5
    refine ⟨_, rfl, ?_⟩
    go_simp
    refine hK1 _ _ (fun _ => H5.out) ?_
    clear hK1 K1
    refine wpPre_nil ?_
    refine wpTr_e rfl (fun K1 hK1 => ?_)
    rw [if_pos (by go_simp)]
    refine step_callT 33 (.func 33) #[.tmp 24] _ rfl rfl Try.f33 Try.func33 (by kernel_rfl) rfl #[.slice b.p b.n b.c] rfl _ (mk_C b.p b.n b.c w5) (fun e w6 h4 => ?_)
    obtain ⟨rfl, hb6⟩ := h4
    have H6 : Hid (Below w4.heap.size w4 w6) := H5.out.trans (hb6.mono H5.out.size)
    clear hb6
    refine ⟨_, rfl, ?_⟩
    go_simp
    refine hK1 _ _ (fun _ => H6.out) ?_
    clear hK1 K1
    refine wpPre_nil ?_
    refine wpTr_e rfl (fun K1 hK1 => ?_)
    rw [if_pos (by go_simp)]
    refine step_callT 32 (.func 32) #[.tmp 22, .tmp 25] _ rfl rfl Try.f32 Try.func32 (by kernel_rfl) rfl #[.agg #[.slice a.p a.n a.c, .func (.func 60) #[] #[]], .agg #[.slice b.p b.n b.c, .func (.func 60) #[] #[]]] rfl _ (mrg_CC a b w6) (fun e w7 h4 => ?_)
    obtain ⟨rfl, hw7⟩ := h4
    have HW7 := hid hw7
    clear hw7
    refine ⟨_, rfl, ?_⟩
    go_simp
    refine hK1 _ _ (fun h => by cases h) ?_
    clear hK1 K1
    refine wpPre_nil ?_
    refine wpTr_done ?_
    have hw7 := HW7.out
    have hb7 : Below w6.heap.size w6 w7 := by rw [hw7]; exact ((Below.refl _ _).alloc (Nat.le_refl _) _).alloc (by simp) _
    have hy0 : Box w7 w6.heap.size #[.slice a.p a.n a.c, .func (.func 60) #[] #[]] 70 := by rw [hw7]; exact (Box.new w6 _ _).below ((Below.refl _ _).alloc (Nat.le_refl _) _)
    have hy1 : Box w7 (w6.heap.size + 1) #[.slice b.p b.n b.c, .func (.func 60) #[] #[]] 70 := by
      have h := Box.new (w6.alloc (.cells #[.slice a.p a.n a.c, .func (.func 60) #[] #[]] 70)) #[.slice b.p b.n b.c, .func (.func 60) #[] #[]] 70
      rw [show (w6.alloc (.cells #[.slice a.p a.n a.c, .func (.func 60) #[] #[]] 70)).heap.size = w6.heap.size + 1 by simp] at h
      rw [hw7]; exact h
    have H47 : Hid (Below w4.heap.size w4 w7) := H6.out.trans (hb7.mono H6.out.size)
    have hB4 : Below w.heap.size w w4 := HBa.out.trans (HB4.out.mono HBa.out.size)
    have hBw : Below w.heap.size w w7 := hB4.trans (H47.out.mono hB4.size)
    have hx7 := HX7.out.below H47.out
    have hz7 : Box w7 c2 #[.int .i64 0, .slice none 0 0, .slice none 0 0] 30 := (HZ.out.below HB4.out).below H47.out
    have hc7w : c7 < w7.heap.size := hx7.lt
    have hwc7 : w.heap.size ≤ c7 := by rw [HC7.out]; exact HBa.out.size
    have hc27 : c2 < c7 := by rw [HC7.out]; exact HZ.out.lt
    have HC27 := hid hc27
    obtain ⟨XS, hXS⟩ : ∃ x, x = dEv a b := ⟨_, rfl⟩
    have HSeq : Hid (SeqT Try.prog 57 #[.pointer (some ⟨w6.heap.size, 0, none⟩), .pointer (some ⟨w6.heap.size + 1, 0, none⟩)] encCC XS TCC c7 w7) := by
      rw [hXS]
      exact it_CC w7 w6.heap.size (w6.heap.size + 1) c7 a b S hy0 hy1 (HA.out.below hBw) (HLb.out.below hBw) (fun k hk => by have := HS.out k hk; have := hBw.size; omega)
    have HXe := hid hXS
    have HLen : Hid (XS.length ≤ 20000) := by show _ ≤ _; rw [hXS]; have := mrg_len VT.text VT.text zC zC (a.n + b.n) a.toL b.toL; unfold dEv; omega
    have HRow : Hid (DRow w w7.heap.size c7 bn w7 [] []) := ⟨⟨_, _, hx7, ⟨rfl, .inl ⟨rfl, rfl⟩⟩, rfl, .inl ⟨rfl, rfl⟩⟩, hBw, Nat.le_refl _⟩
    have HZ7 := hid hz7
    have HSs : Hid ((dSet XS).length ≤ 10000) := by show _ ≤ _; rw [hXS]; exact dSet_b hn.2
    have HGs : Hid ((dGone XS).length ≤ 10000) := by show _ ≤ _; rw [hXS]; exact dGone_b hn.1
    have HBw := hid hBw
    clear hXS hw7 hb7 hy0 hy1 hx7 hz7 hB4 hBw a1 al b1 bl4 hc27
    go_wp2_with fail
    refine (wpIn_wide (n := 0)).1 ?_
    obtain ⟨i0, Kd⟩ := kindC
    obtain ⟨i1, Kd1⟩ := kindS
    have HAb : Hid (Ab w7.heap.size (okTN TCC) (fun pre W' => DRow w w7.heap.size c7 bn W' (dSet pre) (dGone pre) ∧ Box W' c2 #[.int .i64 0, .slice none 0 0, .slice none 0 0] 30)) := Ab.and (DRow.ab dSet dGone (by unfold TCC; decide) (by unfold TCC; decide) hc7w HBw.out.size) (fun s W1 W2 X h1 hbt hx => h1.but hbt fun e => by have := (hx c2 h1.lt e).1; have := HC27.out; omega)
    refine range_law (gf := 57) (lb := #[.pointer (some ⟨w6.heap.size, 0, none⟩), .pointer (some ⟨w6.heap.size + 1, 0, none⟩)]) rfl (enters_of Try.func57 (by kernel_rfl) rfl) (encs := encCC) (fun _ => rfl) (XS := XS) (T := TCC) (b0 := c7) HSeq.out
      (fun pre W' => DRow w w7.heap.size c7 bn W' (dSet pre) (dGone pre) ∧ Box W' c2 #[.int .i64 0, .slice none 0 0, .slice none 0 0] 30)
      HAb.out ⟨HRow.out, HZ7.out⟩
      (fun x a' W' => ∃ q, Box W' q #[.string x.a.text, .slice x.a.p x.a.n x.a.c, .string x.b.text, .slice x.b.p x.b.n x.b.c, .bool x.inA, .bool x.inB] 73 ∧ a' = { tmps := #[.agg #[.int .i64 an, .slice a.p a.n a.c], .agg #[.int .i64 bn, .slice b.p b.n b.c], .pointer (some ⟨w.heap.size, 0, none⟩), .pointer (some ⟨w.heap.size + 1, 0, none⟩), .pointer (some ⟨c2, 0, none⟩), .int .i64 0, .int .i64 (er : Int), .pointer (some ⟨c7, 0, none⟩), .string x.key, .pointer (some ⟨q, 0, none⟩), .agg #[.int .i64 an, .slice a.p a.n a.c], .agg #[.int .i64 bn, .slice b.p b.n b.c], .int .i64 (er : Int), .int .i64 (er : Int), .bool false, undef, undef, .pointer (some ⟨w.heap.size + 1, 0, none⟩), .int .i64 bn, .agg #[.int .i64 bn, .slice none 0 0, .slice none 0 0], .pointer (some ⟨w.heap.size, 1, none⟩), .slice a.p a.n a.c, .agg #[.slice a.p a.n a.c, .func (.func 60) #[] #[]], .pointer (some ⟨w.heap.size + 1, 1, none⟩), .slice b.p b.n b.c, .agg #[.slice b.p b.n b.c, .func (.func 60) #[] #[]], .func (.func 57) #[] #[.pointer (some ⟨w6.heap.size, 0, none⟩), .pointer (some ⟨w6.heap.size + 1, 0, none⟩)], .string x.key, .agg #[.string x.a.text, .slice x.a.p x.a.n x.a.c, .string x.b.text, .slice x.b.p x.b.n x.b.c, .bool x.inA, .bool x.inB], undef, undef, undef, undef, undef, undef, undef, undef, undef, undef, undef, undef, undef, undef, undef, undef, undef, undef, undef, undef, undef, undef, undef, undef, undef, undef, undef, undef, undef, undef, undef], defers := [] })
      ?abx ?assign ?body ?done
    case abx =>
      rintro ⟨x, a'⟩ W' W'' X ⟨q, hq, he⟩ hbt hx
      exact ⟨q, hq.but hbt fun e => by
        obtain ⟨_, o, h1, h2⟩ := hx q hq.lt e
        rw [show W'.heap[q]? = _ from hq] at h1
        cases h1
        simp [okN, Obj.isCells] at h2, he⟩
    case assign =>
      intro l pre x W' K hI hK
      have hnb : Below W'.heap.size W' (W'.alloc (.cells #[.string x.a.text, .slice x.a.p x.a.n x.a.c, .string x.b.text, .slice x.b.p x.b.n x.b.c, .bool x.inA, .bool x.inB] 73)) := (Below.refl _ _).alloc (Nat.le_refl _) _
      have HK := hid hK
      have HI := hid hI
      clear hK hI
      unfold encCC
      gi_wp2
      exact HK.out _ _ (KeepB.below hnb) (HAb.out.grow HI.out hnb) ⟨W'.heap.size, Box.new _ _ _, rfl⟩
    case body =>
      rintro l pre x a' W' ⟨⟨⟨vS, vG, hbx, hoS, hoG⟩, hbel, hsz⟩, hc2⟩ ⟨q, hq, rfl⟩ hpre
      have hlp : pre.length < 20000 := by
        have h1 := hpre.length_le
        have h2 := HLen.out
        simp only [List.length_append, List.length_singleton] at h1
        omega
      have hmem : x ∈ dEv a b := by
        rw [← HXe.out]
        obtain ⟨t, ht⟩ := hpre
        rw [← ht]
        simp
      have hlS := dSet_le pre
      have hlG := dGone_le pre
      have HMem := hid (mrg_mem _ _ _ _ _ _ _ _ hmem)
      have HBX := hid hbx
      have HOS := hid hoS
      have HOG := hid hoG
      have HC2b := hid hc2
      have HBel := hid hbel
      have HSz := hid hsz
      have HQ := hid hq
      have q0 := HQ.out.cell 0
      have q1 := HQ.out.cell 1
      have q2 := HQ.out.cell 2
      have q3 := HQ.out.cell 3
      have q4 := HQ.out.cell 4
      have q5 := HQ.out.cell 5
      have ql := HQ.out.lt
      simp at q0 q1 q2 q3 q4 q5
      clear hbx hoS hoG hc2 hbel hq hpre hmem
      cases hx : x.inB with
      | false =>
        rw [hx] at q5
        have v2 := HBX.out.cell 2
        have vl := HBX.out.lt
        simp at v2
        have hown := HOG.out
        have HBXq := HBX
        have HBelq := HBel
        have HSzq := HSz
        have HOSq := HOS
        have HOGq := HOG
        have hnews : ∀ j u', (elStr.cells x.key)[j]? = some u' → (W'.alloc (.cells #[.string x.key] 9)).cell? ((⟨W'.heap.size, 0, none⟩ : Addr).add j) = some u' := fun j u' hu => by
          rw [Go.WideShapes.add_plain, (Box.new W' #[.string x.key] 9).cell]
          rw [show 0 + j = j by omega]
          simpa [elStr] using hu
        gi_wp2_with (gi_at_builtin; refine wpListIn_append_own _ rfl (.tmp 33) (.tmp 35) 28 rfl w7.heap.size 9 i1 _ 1 16 Kd1.ht Kd1.hi Kd1.hz Kd1.hsize Kd1.hby Kd1.hzs Kd1.hsz vG (dGone pre).length _ rfl (hown.alloc _) ⟨W'.heap.size, 0, none⟩ 1 1 (elStr.cells x.key) rfl rfl hnews (elStr.one _) (by unfold maxLen; omega) (by omega) (by have := HSzq.out; simp; omega) ?_; intro v' w9 ho9 hg9 _; obtain ⟨p2, e2, hv2⟩ := ownsRow_slice ho9; rw [hv2] at ho9 ⊢; clear hv2; have hP := push_core (w := w) (i := 2) (T := TCC) (x := x.key) HBXq.out hown HBelq.out HSzq.out (by unfold TCC; decide) hc7w hwc7 ho9 hg9; have z0 := hP.2.1.cell 2; have zf := hP.2.1.frozen 2; have zl := hP.2.1.lt; simp at z0; have HP := hid hP; clear hP ho9 hg9 hnews hown)
        gi_wp2
        obtain ⟨hk9, _, hbx9, hown9, hoth9, hbel9, hsz9⟩ := HP.out
        have hbox9 : Box (w9.setCell ⟨c7, 2, none⟩ (.slice p2 ((dGone pre).length + 1) e2)) c7 #[.int .i64 bn, vS, .slice p2 ((dGone pre).length + 1) e2] 30 := hbx9
        have hkA : KeepB w7.heap.size TCC c7 W' (w9.setCell ⟨c7, 2, none⟩ (.slice p2 ((dGone pre).length + 1) e2)) := hk9
        refine ⟨hkA, ⟨⟨_, _, hbox9, ?_, ?_⟩, hbel9, hsz9⟩, HC2b.out.kept (hkA.kt.low c2 (by have := HC27.out; omega) HC2b.out.lt (by have := HC27.out; omega))⟩
        · have e : dSet (pre ++ [x]) = dSet pre := by simp [dSet, hx]
          rw [e]
          exact hoth9 (by decide) HOSq.out
        · have e : dGone (pre ++ [x]) = dGone pre ++ [x.key] := by simp [dGone, hx]
          rw [e]
          simpa using hown9
      | true =>
        rw [hx] at q5
        cases hy : x.inA with
        | false =>
          rw [hy] at q4
          have v1 := HBX.out.cell 1
          have vl := HBX.out.lt
          simp at v1
          have hown := HOS.out
          gi_wp2
          refine ⟨trivial, ?_⟩
          have HBXq := HBX
          have HBelq := HBel
          have HSzq := HSz
          have HOSq := HOS
          have HOGq := HOG
          have hnews : ∀ j u', (elCell.cells x.b)[j]? = some u' → (W'.alloc (.cells #[.string x.b.text, .slice x.b.p x.b.n x.b.c] 62)).cell? ((⟨W'.heap.size, 0, none⟩ : Addr).add j) = some u' := fun j u' hu => by
            rw [Go.WideShapes.add_plain, (Box.new W' #[.string x.b.text, .slice x.b.p x.b.n x.b.c] 62).cell]
            rw [show 0 + j = j by omega]
            simpa [elCell, VT.two] using hu
          gi_wp2_with (gi_at_builtin; refine wpListIn_append_own _ rfl (.tmp 52) (.tmp 55) 22 rfl w7.heap.size 62 i0 _ 2 40 Kd.ht Kd.hi Kd.hz Kd.hsize Kd.hby Kd.hzs Kd.hsz vS (dSet pre).length _ rfl (hown.alloc _) ⟨W'.heap.size, 0, none⟩ 1 1 (elCell.cells x.b) rfl rfl hnews (elCell.one _) (by unfold maxLen; omega) (by omega) (by have := HSzq.out; simp; omega) ?_; intro v' w9 ho9 hg9 _; obtain ⟨p2, e2, hv2⟩ := ownsRow_slice ho9; rw [hv2] at ho9 ⊢; clear hv2; have hP := push_core (w := w) (i := 1) (T := TCC) (x := x.b) HBXq.out hown HBelq.out HSzq.out (by unfold TCC; decide) hc7w hwc7 ho9 hg9; have z0 := hP.2.1.cell 1; have zf := hP.2.1.frozen 1; have zl := hP.2.1.lt; simp at z0; have HP := hid hP; clear hP ho9 hg9 hnews hown)
          gi_wp2
          obtain ⟨hk9, _, hbx9, hown9, hoth9, hbel9, hsz9⟩ := HP.out
          have hbox9 : Box (w9.setCell ⟨c7, 1, none⟩ (.slice p2 ((dSet pre).length + 1) e2)) c7 #[.int .i64 bn, .slice p2 ((dSet pre).length + 1) e2, vG] 30 := hbx9
          have hkA : KeepB w7.heap.size TCC c7 W' (w9.setCell ⟨c7, 1, none⟩ (.slice p2 ((dSet pre).length + 1) e2)) := hk9
          refine ⟨hkA, ⟨⟨_, _, hbox9, ?_, ?_⟩, hbel9, hsz9⟩, HC2b.out.kept (hkA.kt.low c2 (by have := HC27.out; omega) HC2b.out.lt (by have := HC27.out; omega))⟩
          · have e : dSet (pre ++ [x]) = dSet pre ++ [x.b] := by simp [dSet, hx, hy]
            rw [e]
            simpa using hown9
          · have e : dGone (pre ++ [x]) = dGone pre := by simp [dGone, hx]
            rw [e]
            exact hoth9 (by decide) HOGq.out
        | true =>
          rw [hy] at q4
          have HSv := hid (sameVals_any x.a x.b W' S S (by
            obtain ⟨j, hj, e⟩ := LT.mem_toL (HMem.out.1 hy)
            rw [← e]; exact (show VT.In w S (a.item j) from HA.out.each j hj).below HBel.out) (by
            obtain ⟨j, hj, e⟩ := LT.mem_toL (HMem.out.2.1 hx)
            rw [← e]; exact (show VT.In w S (b.item j) from HLb.out.each j hj).below HBel.out))
          gi_wp2
          refine ⟨trivial, rfl, (CallsIn.inRound l (callsIn_wide.2 HSv.out)).mono ?_⟩
          rintro r w8 ⟨rfl, hb8⟩
          have HB8 := hid hb8
          have HBXq := hid (HBX.out.below hb8)
          have HBelq := hid (HBel.out.trans (hb8.mono HBel.out.size))
          have HSzq : Hid (w7.heap.size ≤ w8.heap.size) := Nat.le_trans HSz.out hb8.size
          have HOSq := hid (ownsRow_keep HOS.out fun k _ hl => hb8.block k hl)
          have HOGq := hid (ownsRow_keep HOG.out fun k _ hl => hb8.block k hl)
          have hq8 := HQ.out.below hb8
          clear q0 q1 q2 q3 q4 q5 ql
          have q0 := hq8.cell 0
          have q1 := hq8.cell 1
          have q2 := hq8.cell 2
          have q3 := hq8.cell 3
          have q4 := hq8.cell 4
          have q5 := hq8.cell 5
          have ql := hq8.lt
          simp at q0 q1 q2 q3 q4 q5
          have v1 := HBXq.out.cell 1
          have vl := HBXq.out.lt
          simp at v1
          clear hq8 hb8
          cases hz : eqV x.a x.b with
          | true =>
            gi_wp2
            refine ⟨KeepB.below HB8.out, ⟨⟨vS, vG, HBXq.out, ?_, ?_⟩, HBelq.out, HSzq.out⟩, HC2b.out.below HB8.out⟩
            · have e : dSet (pre ++ [x]) = dSet pre := by simp [dSet, hx, hy, hz]
              rw [e]; exact HOSq.out
            · have e : dGone (pre ++ [x]) = dGone pre := by simp [dGone, hx]
              rw [e]; exact HOGq.out
          | false =>
            have hown := HOSq.out
            have hnews : ∀ j u', (elCell.cells x.b)[j]? = some u' → (w8.alloc (.cells #[.string x.b.text, .slice x.b.p x.b.n x.b.c] 62)).cell? ((⟨w8.heap.size, 0, none⟩ : Addr).add j) = some u' := fun j u' hu => by
              rw [Go.WideShapes.add_plain, (Box.new w8 #[.string x.b.text, .slice x.b.p x.b.n x.b.c] 62).cell]
              rw [show 0 + j = j by omega]
              simpa [elCell, VT.two] using hu
            gi_wp2_with (gi_at_builtin; refine wpListIn_append_own _ rfl (.tmp 52) (.tmp 55) 22 rfl w7.heap.size 62 i0 _ 2 40 Kd.ht Kd.hi Kd.hz Kd.hsize Kd.hby Kd.hzs Kd.hsz vS (dSet pre).length _ rfl (hown.alloc _) ⟨w8.heap.size, 0, none⟩ 1 1 (elCell.cells x.b) rfl rfl hnews (elCell.one _) (by unfold maxLen; omega) (by omega) (by have := HSzq.out; simp; omega) ?_; intro v' w9 ho9 hg9 _; obtain ⟨p2, e2, hv2⟩ := ownsRow_slice ho9; rw [hv2] at ho9 ⊢; clear hv2; have hP := push_core (w := w) (i := 1) (T := TCC) (x := x.b) HBXq.out hown HBelq.out HSzq.out (by unfold TCC; decide) hc7w hwc7 ho9 hg9; have z0 := hP.2.1.cell 1; have zf := hP.2.1.frozen 1; have zl := hP.2.1.lt; simp at z0; have HP := hid hP; clear hP ho9 hg9 hnews hown)
            gi_wp2
            obtain ⟨hk9, _, hbx9, hown9, hoth9, hbel9, hsz9⟩ := HP.out
            have hbox9 : Box (w9.setCell ⟨c7, 1, none⟩ (.slice p2 ((dSet pre).length + 1) e2)) c7 #[.int .i64 bn, .slice p2 ((dSet pre).length + 1) e2, vG] 30 := hbx9
            have hkA : KeepB w7.heap.size TCC c7 W' (w9.setCell ⟨c7, 1, none⟩ (.slice p2 ((dSet pre).length + 1) e2)) := KeepB.trans (KeepB.below HB8.out) hk9
            refine ⟨hkA, ⟨⟨_, _, hbox9, ?_, ?_⟩, hbel9, hsz9⟩, HC2b.out.kept (hkA.kt.low c2 (by have := HC27.out; omega) HC2b.out.lt (by have := HC27.out; omega))⟩
            · have e : dSet (pre ++ [x]) = dSet pre ++ [x.b] := by simp [dSet, hx, hy, hz]
              rw [e]
              simpa using hown9
            · have e : dGone (pre ++ [x]) = dGone pre := by simp [dGone, hx]
              rw [e]
              exact hoth9 (by decide) HOGq.out
    case done =>
      rintro D W' hD ⟨⟨⟨vS, vG, hbx, hoS, hoG⟩, hbel, hsz⟩, hc2⟩ hK
      obtain ⟨pS, eS, hvS⟩ := ownsRow_slice hoS
      obtain ⟨pG, eG, hvG⟩ := ownsRow_slice hoG
      subst hvS
      subst hvG
      have hlS := dSet_le XS
      have hlG := dGone_le XS
      have hlX := HLen.out
      have hSx : ∀ (y : VT), y ∈ dSet XS → VT.In w S y ∧ y.total ≤ 10000 := fun y hy => by
        obtain ⟨x, hx, rfl⟩ := List.mem_map.1 hy
        rw [List.mem_filter] at hx
        have hm := mrg_mem _ _ _ _ _ _ _ _ (by have := hx.1; rw [HXe.out] at this; exact this)
        have hb : x.inB = true := by have := hx.2; rw [Bool.and_eq_true] at this; exact this.1
        obtain ⟨j, hj, e⟩ := LT.mem_toL (hm.2.1 hb)
        rw [← e]
        exact ⟨HLb.out.each j hj, HT.out j hj⟩
      have hGx : ∀ (y : ByteArray), y ∈ dGone XS → y.size ≤ 140737488355328 := fun y hy => by
        obtain ⟨x, hx, rfl⟩ := List.mem_map.1 hy
        rw [List.mem_filter] at hx
        exact HKy.out x (by rw [← HXe.out]; exact hx.1)
      have hInS : LT.In elCell W' (fun k => S k ∨ w.heap.size ≤ k) (ltOf pS eS zC (dSet XS)) := own_lt zC (own_low hoS HBw.out.size) (fun k hk => .inr hk) (fun y hy => ((hSx y hy).1.kept hbel.size (fun k _ hl => hbel.block k hl)).mono fun k hk _ => .inl hk) (by omega)
      have hInG : LT.In elStr W' (fun k => S k ∨ w.heap.size ≤ k) (ltOf pG eG (⟨#[]⟩ : ByteArray) (dGone XS)) := own_lt _ (own_low hoG HBw.out.size) (fun k hk => .inr hk) (fun y hy => hGx y hy) (by omega)
      have HFr := hid (freshD ⟨bn, ltOf pS eS zC (dSet XS), ltOf pG eG (⟨#[]⟩ : ByteArray) (dGone XS)⟩ W' (fun k => S k ∨ w.heap.size ≤ k) ⟨hInS, hInG, hb0, hb1⟩ (by show (dSet XS).length ≤ 10000; exact HSs.out) (by show (dGone XS).length ≤ 10000; exact HGs.out) (fun j hj => by
        have hj2 : j < (dSet XS).length := hj
        show ((dSet XS).getD j zC).total ≤ 10000
        rw [List.getD_eq_getElem?_getD, List.getElem?_eq_getElem hj2]
        exact (hSx _ (List.getElem_mem hj2)).2))
      have v0 := hbx.cell 0
      have v1 := hbx.cell 1
      have v2 := hbx.cell 2
      have vl := hbx.lt
      simp at v0 v1 v2
      have HC2b := hid hc2
      have HBel := hid hbel
      have HKD := hid hK
      clear hbx hoS hoG hbel hc2 hK hSx hGx hInS hInG
      go_wp2_with fail
      refine HFr.out.mono ?_
      rintro r w8 ⟨u, rfl, hal, hin, hb8⟩
      have HU := hid (And.intro hal hin)
      have HB8 := hid hb8
      have hz := HC2b.out.below hb8
      have HZq := hid hz
      have z0 := hz.cell 0
      have z1 := hz.cell 1
      have z2 := hz.cell 2
      have zf0 := hz.frozen 0
      have zf1 := hz.frozen 1
      have zf2 := hz.frozen 2
      have zl := hz.lt
      simp at z0 z1 z2
      have hKV := (hb8.block D (Array.getElem?_eq_some_iff.1 HKD.out).1).trans HKD.out
      have HKV := hid hKV
      clear hal hin hb8 hz v0 v1 v2 vl HFr hKV
      go_wp2
      obtain ⟨VE, hVE⟩ : ∃ V, V = (((w8.setCell ⟨c2, 0, none⟩ (.int .i64 u.num)).setCell ⟨c2, 1, none⟩ (.slice u.set.p u.set.n u.set.c)).setCell ⟨c2, 2, none⟩ (.slice u.gone.p u.gone.n u.gone.c)) := ⟨_, rfl⟩
      rw [← hVE]
      have hbt : But (fun k => k = c2) w8 VE := by rw [hVE]; exact (((But.one w8 c2).setAt 0 _).setAt 1 _).setAt 2 _
      have hlt2 : c2 < w7.heap.size := by have := HC27.out; omega
      have hKE : VE.heap[D]? = some (.deferred (some [])) := (hbt.block D (Array.getElem?_eq_some_iff.1 HKV.out).1 (by omega)).trans HKV.out
      have hRX : Box VE c2 #[.int .i64 u.num, .slice u.set.p u.set.n u.set.c, .slice u.gone.p u.gone.n u.gone.c] 30 := by rw [hVE]; exact ((HZq.out.set 0 _).set 1 _).set 2 _
      have hbD : But (fun k => k = D) VE (VE.putObj D (.deferred none)) := But.put VE D _
      have hRX2 := hRX.but hbD (by omega)
      have f0 := hRX2.cell 0
      have f1 := hRX2.cell 1
      have f2 := hRX2.cell 2
      simp only [List.getElem?_toArray, List.getElem?_cons_zero, List.getElem?_cons_succ] at f0 f1 f2
      have hall : But (fun k => k = c2 ∨ k = D) w8 (VE.putObj D (.deferred none)) := ⟨hbD.os.trans hbt.os, hbD.tape.trans hbt.tape, hbD.output.trans hbt.output, Nat.le_trans hbt.size hbD.size, fun k hk hn => (hbD.block k (by have := hbt.size; omega) (fun e => hn (.inr e))).trans (hbt.block k hk (fun e => hn (.inl e)))⟩
      have hB8 : Below w.heap.size w w8 := HBel.out.trans (HB8.out.mono HBel.out.size)
      have hw7 := HBw.out.size
      have hDl : D < W'.heap.size := (Array.getElem?_eq_some_iff.1 HKD.out).1
      have hsel := HBel.out.size
      refine ⟨by simp, .inl ⟨_, _, rfl, run_takeDeferred hKE, ?_⟩⟩
      refine ⟨.tuple #[.agg #[.int .i64 u.num, .slice u.set.p u.set.n u.set.c, .slice u.gone.p u.gone.n u.gone.c], .int .i64 0], by simp [results, Try.results12, go_sem, f0, f1, f2], hB8.trans (hall.below hB8.size fun k hk e => by have := HC2.out; omega), fun h => absurd HC0.out h, fun _ => ⟨u, rfl, ?_, ?_⟩⟩
      · obtain ⟨a1, a2, a3, a4, a5⟩ := HU.out.1
        rw [HXe.out] at a2 a3 a4 a5
        exact ⟨a1, a2, a3, a4, a5⟩
      · refine (HU.out.2.kept hall.size (fun k hk hl => hall.block k hl ?_)).mono fun k hk _ => by omega
        rintro (e | e) <;> omega
  · have hc1 : ((er : Int) != 0) = true := by simp; omega
    have HNe := hid hc
    have hz := HZ.out
    have z0 := hz.cell 0
    have z1 := hz.cell 1
    have z2 := hz.cell 2
    have g0 := hz.frozen 0
    have g1 := hz.frozen 1
    have g2 := hz.frozen 2
    have zl := hz.lt
    simp at z0 z1 z2
    clear hc hz
    go_wp2
    obtain ⟨VE, hVE⟩ : ∃ V, V = (((w1.setCell ⟨c2, 0, none⟩ (.int .i64 0)).setCell ⟨c2, 1, none⟩ (.slice none 0 0)).setCell ⟨c2, 2, none⟩ (.slice none 0 0)) := ⟨_, rfl⟩
    rw [← hVE]
    have hbt : But (fun k => k = c2) w1 VE := by rw [hVE]; exact (((But.one w1 c2).setAt 0 _).setAt 1 _).setAt 2 _
    have hF : Box VE c2 #[.int .i64 0, .slice none 0 0, .slice none 0 0] 30 := by rw [hVE]; exact ((HZ.out.set 0 _).set 1 _).set 2 _
    have f0 := hF.cell 0
    have f1 := hF.cell 1
    have f2 := hF.cell 2
    simp only [List.getElem?_toArray, List.getElem?_cons_zero, List.getElem?_cons_succ] at f0 f1 f2
    exact ⟨.tuple #[.agg #[.int .i64 0, .slice none 0 0, .slice none 0 0], .int .i64 (er : Int)], by simp [results, Try.results12, go_sem, f0, f1, f2], HBa.out.trans (hbt.below HBa.out.size fun k hk e => by have := HC2.out; omega), fun _ => rfl, fun h => absurd h HNe.out⟩
end Go.Proofs.Ytckopbkhpbhljaa
