import Derived.Test.YtfonicphdejdlaaGreatPack39
import Derived.Test.YtfonicphdejdlaaGreatPack0
import Derived.ProofKit
import Derived.OpenShut
import Derived.ChangeOld
import Derived.SizedLaws
import Derived.Deep.DeepHandedRow
import Derived.Deep.Strs
import Derived.Lib.LaidTab
namespace Go.Proofs.YtfonicphdejdlaaGreat
open Go.RowKit
set_option maxRecDepth 8000
theorem chkVals_ca {t u : VT} (h : CAlike t u) : chkVals t = chkVals u := by
  unfold chkVals
  rw [h.n, firstC_congr (g := fun q => (chk (t.item q) 0 0).1) (g' := fun q => (chk (u.item q) 0 0).1) (n := t.n) (fun q hq => by rw [chk_alike _ _ 0 0 (h.item q hq)])]
theorem chkCells_ca {f g : Nat → VT} {n : Nat} (h : ∀ j, j < n → CAlike (f j) (g j)) : firstC (chkCell f) n = firstC (chkCell g) n := by
  refine firstC_congr fun j hj => ?_
  unfold chkCell
  rw [(h j hj).text, chkVals_ca (h j hj)]
  rcases Nat.eq_zero_or_pos j with rfl | hp
  · simp
  · rw [(h (j - 1) (by omega)).text]
theorem chkState_al {s u : ST} (hn : u.num = s.num) (h : CellsAlike s.lt u.lt) : chkState s = chkState u := by
  have h1 : u.n = s.n := h.1
  unfold chkState
  rw [hn, h1, chkCells_ca (f := s.cell) (g := u.cell) (n := s.n) h.2]
theorem cellB_ca {t u : VT} (h : CAlike t u) : cellB u = cellB t := by
  unfold cellB
  rw [h.text, h.n, listB_congr fun j hj => valB_al (h.item j hj)]
theorem stateB_ca {s u : ST} (hn : u.num = s.num) (h : CellsAlike s.lt u.lt) : stateB u = stateB s := by
  have h1 : u.n = s.n := h.1
  unfold stateB
  rw [hn, h1, listB_congr (n := s.n) (f := u.cell) (g := s.cell) fun j hj => cellB_ca (h.2 j hj)]
theorem chkRecs_al {l u : LT RT} (h : RecsAlike l u) : chkRecs l = chkRecs u := by
  unfold chkRecs
  rw [h.1, firstC_congr (g := fun j => chkRec (l.item j)) (g' := fun j => chkRec (u.item j)) (n := l.n) (fun j hj => chkRec_alike (h.2 j hj))]
theorem chkGone_al {l u : LT ByteArray} (h : TxsAlike l u) : chkGone l = chkGone u := by
  unfold chkGone
  rw [h.1, firstC_congr (g := chkGo l.item) (g' := chkGo u.item) (n := l.n) (fun j hj => by
    unfold chkGo
    rw [h.2 j hj]
    rcases Nat.eq_zero_or_pos j with rfl | hp
    · simp
    · rw [h.2 (j - 1) (by omega)])]
theorem chkMan_al {m k : MI} (h : MnAlike m k) : chkMan m = chkMan k := by
  unfold chkMan
  rw [h.id, h.rows.1, firstC_congr (g := fun j => chkSize (m.rows.item j)) (g' := fun j => chkSize (k.rows.item j)) (n := m.rows.n) (fun j hj => by rw [h.rows.2 j hj])]
theorem manB_al {m k : MI} (h : MnAlike m k) : manB k.to = manB m.to := by
  have h1 : k.to.rows.n = m.to.rows.n := h.rows.1
  unfold manB
  rw [h1, listB_congr (f := k.to.rows.item) (g := m.to.rows.item) fun j hj => by
    show fileB ((k.rows.item j).1.toNat, (k.rows.item j).2) = fileB ((m.rows.item j).1.toNat, (m.rows.item j).2)
    rw [h.rows.2 j hj]]
  show _ = 77 :: (grpB m.id.toNat ++ (wordB m.sum ++ _))
  rw [← h.id, ← h.sum]
  rfl
theorem chkOut_al {o q : OI} (hn : q.num = o.num) (h : RT.Alike o.rec_ q.rec_) : chkOut o = chkOut q := by
  unfold chkOut
  rw [hn, chkRec_alike h]
theorem outB_al {o q : OI} (hn : q.num = o.num) (h : RT.Alike o.rec_ q.rec_) : outB q.to = outB o.to := by
  show 79 :: (grpB q.num.toNat ++ recB q.rec_) = 79 :: (grpB o.num.toNat ++ recB o.rec_)
  rw [hn, recB_al h]
theorem chkSeg_al {g k : GI} (h : SgAlike g k) : chkSeg g = chkSeg k := by
  have e1 : bnd g = bnd k := by unfold bnd; rw [h.id, h.task, h.base]
  have hsn : k.st.n = g.st.n := h.st.1
  have e2 : other g = other k := by unfold other; rw [h.base, h.sum, h.dnum, h.set.1, h.gone.1, h.snum, hsn]
  have e3 : chkKept g = chkKept k := by
    unfold chkKept
    rw [h.base, chkState_al h.snum h.st, chkGone_al h.gone, chkState_al (s := g.dst) (u := k.dst) h.dnum h.set]
  have e4 : chkLogs g = chkLogs k := by
    unfold chkLogs
    rw [h.logs.1, firstC_congr (g := fun j => chkRecs (g.logs.item j)) (g' := fun j => chkRecs (k.logs.item j)) (n := g.logs.n) (fun j hj => chkRecs_al (h.logs.2 j hj))]
  unfold chkSeg
  simp only [e1, e2, e3, e4, chkRecs_al h.pend]
theorem segB_al {g k : GI} (h : SgAlike g k) : segB k.to = segB g.to := by
  show 83 :: (grpB k.id.toNat ++ (grpB k.task.toNat ++ (grpB k.base.toNat ++ ((if k.base.toNat = 0 then stateB k.st else wordB k.sum ++ (grpB k.dnum.toNat ++ (listB cellB k.set.n k.set.item ++ listB keyB k.gone.n k.gone.item))) ++ (listB recsB k.logs.n k.logs.item ++ recsB k.pend))))) =
    83 :: (grpB g.id.toNat ++ (grpB g.task.toNat ++ (grpB g.base.toNat ++ ((if g.base.toNat = 0 then stateB g.st else wordB g.sum ++ (grpB g.dnum.toNat ++ (listB cellB g.set.n g.set.item ++ listB keyB g.gone.n g.gone.item))) ++ (listB recsB g.logs.n g.logs.item ++ recsB g.pend)))))
  rw [h.id, h.task, h.base, h.sum, h.dnum, stateB_ca h.snum h.st, h.set.1, h.gone.1, h.logs.1, recsB_al h.pend, listB_congr fun j hj => cellB_ca (h.set.2 j hj), listB_congr (f := k.gone.item) (g := g.gone.item) fun j hj => by rw [h.gone.2 j hj], listB_congr fun j hj => recsB_al (h.logs.2 j hj)]
/-- two that are both alike to a third -/
theorem va_join {w : World} {S : Nat → Prop} : ∀ {t u y : VT}, VT.Alike t y → VT.Alike u y → VT.In w S t → VT.In w S u → VT.Alike t u := by
  intro t
  induction t with
  | nil => intro u y _ _ h; exact h.elim
  | mk k i s n p c f ih =>
    intro u y h1 h2 ht hu
    refine ⟨h2.kind.symm.trans h1.1, h2.int.symm.trans h1.2.1, h2.text.symm.trans h1.2.2.1, h2.n.symm.trans h1.2.2.2.1, fun j hj => ?_⟩
    have hju : j < u.n := by rw [← h2.n, h1.2.2.2.1]; exact hj
    exact ih j (h1.2.2.2.2 j hj) (h2.item hju) (ht.sub hj) (hu.sub hju)
theorem ra_join {w : World} {S : Nat → Prop} {r q y : RT} (h : RT.Alike r y) (k : RT.Alike q y) (hr : RT.In w S r) (hq : RT.In w S q) : RT.Alike r q :=
  ⟨k.key.symm.trans h.key, va_join h.v k.v hr.v hq.v, k.n.symm.trans h.n, fun j hj => (k.loop j (by rw [← k.n, h.n]; exact hj)).symm.trans (h.loop j hj)⟩
theorem rs_join {w : World} {S : Nat → Prop} {r q y : LT RT} (h : RecsAlike r y) (k : RecsAlike q y) (hr : LT.In elRec w S r) (hq : LT.In elRec w S q) : RecsAlike r q :=
  ⟨k.1.symm.trans h.1, fun j hj => have hj2 : j < q.n := by rw [← k.1, h.1]; exact hj
    ra_join (w := w) (S := S) (h.2 j hj) (k.2 j hj2) (hr.each j hj) (hq.each j hj2)⟩
theorem ca_join {w : World} {S : Nat → Prop} {a b y : VT} (h : CAlike a y) (k : CAlike b y) (ha : VT.In w S a) (hb : VT.In w S b) : CAlike a b :=
  ⟨k.text.symm.trans h.text, k.n.symm.trans h.n, fun j hj => have hj2 : j < b.n := by rw [← k.n, h.n]; exact hj
    va_join (h.item j hj) (k.item j hj2) (ha.sub hj) (hb.sub hj2)⟩
theorem sa_join {w : World} {S : Nat → Prop} {s u y : ST} (h : SAlike s y) (k : SAlike u y) (hs : ST.In w S s) (hu : ST.In w S u) : u.num = s.num ∧ CellsAlike s.lt u.lt :=
  ⟨k.num.symm.trans h.num, k.n.symm.trans h.n, fun j hj => have hj2 : j < u.n := by rw [← k.n, h.n]; exact hj
    ca_join (w := w) (S := S) (h.cell j hj) (k.cell j hj2) (hs.each j hj) (hu.each j hj2)⟩
theorem list_join {α : Type} {Q T : α → α → Prop} {l u : LT α} {ys : List α} {d : α} (h : ys.length = l.n ∧ ∀ j, j < l.n → Q (l.item j) (ys.getD j d)) (k : ys.length = u.n ∧ ∀ j, j < u.n → Q (u.item j) (ys.getD j d)) (hc : ∀ j, j < l.n → j < u.n → Q (l.item j) (ys.getD j d) → Q (u.item j) (ys.getD j d) → T (l.item j) (u.item j)) : u.n = l.n ∧ ∀ j, j < l.n → T (l.item j) (u.item j) :=
  ⟨k.1.symm.trans h.1, fun j hj => have hj2 : j < u.n := by rw [← k.1, h.1]; exact hj
    hc j hj hj2 (h.2 j hj) (k.2 j hj2)⟩
theorem ga_join {w : World} {S : Nat → Prop} {g k : GI} {y : GP} (bg : bnd g) (bk : bnd k) (dg : 0 ≤ g.dnum) (dk : 0 ≤ k.dnum) (h : GAlike g.to y) (h2 : GAlike k.to y) (hg : GI.In w S g) (hk : GI.In w S k) : SgAlike g k := by
  obtain ⟨b1, b2, b3⟩ := bg
  obtain ⟨c1, c2, c3⟩ := bk
  have e1 : k.id.toNat = g.id.toNat := h2.id.symm.trans h.id
  have e2 : k.task.toNat = g.task.toNat := h2.task.symm.trans h.task
  have e3 : k.base.toNat = g.base.toNat := h2.base.symm.trans h.base
  have e4 : k.dnum.toNat = g.dnum.toNat := h2.dnum.symm.trans h.dnum
  have hs := sa_join h.st h2.st hg.st.i hk.st.i
  exact ⟨by omega, by omega, by omega, h2.sum.symm.trans h.sum, hs.1, by omega, list_join (l := g.logs) (u := k.logs) h.logs h2.logs fun j hj hj2 a b => rs_join (w := w) (S := S) a b (hg.logs.each j hj) (hk.logs.each j hj2), hs.2,
    list_join (l := g.set) (u := k.set) h.set h2.set fun j hj hj2 a b => ca_join (w := w) (S := S) a b (hg.set.each j hj) (hk.set.each j hj2),
    list_join (l := g.gone) (u := k.gone) (Q := fun a b => b = a) (T := fun a b => b = a) h.gone h2.gone fun _ _ _ a b => b.symm.trans a,
    list_join (l := g.pend) (u := k.pend) h.pend h2.pend fun j hj hj2 a b => ra_join (w := w) (S := S) a b (hg.pend.each j hj) (hk.pend.each j hj2)⟩
theorem ma_join {m k : MI} {y : Nat × Nat × List (Nat × Nat)} (m0 : 0 ≤ m.id) (k0 : 0 ≤ k.id) (mr : ∀ j, j < m.rows.n → 0 ≤ (m.rows.item j).1) (kr : ∀ j, j < k.rows.n → 0 ≤ (k.rows.item j).1)
    (h : y.1 = m.to.id ∧ y.2.1 = m.to.sum ∧ y.2.2.length = m.to.rows.n ∧ ∀ j, j < m.to.rows.n → y.2.2.getD j (0, 0) = m.to.rows.item j) (h2 : y.1 = k.to.id ∧ y.2.1 = k.to.sum ∧ y.2.2.length = k.to.rows.n ∧ ∀ j, j < k.to.rows.n → y.2.2.getD j (0, 0) = k.to.rows.item j) : MnAlike m k := by
  have e1 : k.id.toNat = m.id.toNat := h2.1.symm.trans h.1
  have hl := list_join (l := m.to.rows) (u := k.to.rows) (Q := fun a b => b = a) (T := fun a b => b = a) h.2.2 h2.2.2 fun _ _ _ a b => b.symm.trans a
  have hn : k.rows.n = m.rows.n := hl.1
  refine ⟨by omega, h2.2.1.symm.trans h.2.1, hn, fun j hj => ?_⟩
  have h3 : ((k.rows.item j).1.toNat, (k.rows.item j).2) = ((m.rows.item j).1.toNat, (m.rows.item j).2) := hl.2 j hj
  have a1 := mr j hj
  have a2 := kr j (by rw [hn]; exact hj)
  rw [Prod.mk.injEq] at h3
  exact Prod.ext (by omega) h3.2
/-- of two things of one kind: their bytes, their faults, and whether they are alike -/
def TwoP (t u : HI) (w : World) : Prop := ∃ (k1 : Nat) (E1 : List Int) (k2 : Nat) (E2 : List Int),
  (∀ W, Below w.heap.size w W → Calls Tryz.prog 11 #[.agg t.cells] W fun x w' => PutR k1 E1 W x w') ∧ (∀ W, Below w.heap.size w W → Calls Tryz.prog 11 #[.agg u.cells] W fun x w' => PutR k2 E2 W x w') ∧
  (k1 = 0 → Byt E1 ∧ E1.length ≤ 5000000) ∧ (k2 = 0 → Byt E2 ∧ E2.length ≤ 5000000) ∧ (ThAlike t u → k1 = k2 ∧ E1 = E2) ∧ (k1 = 0 → k2 = 0 → E1 = E2 → ThAlike t u)
theorem back_same {α : Type} {s : RS α} {E1 E2 : List Int} {Q1 Q2 : α → Prop} (h1 : Back s E1 Q1) (h2 : Back s E2 Q2) (e : E1 = E2) : ∃ y, Q1 y ∧ Q2 y := by
  subst e
  obtain ⟨y, hy, q⟩ := h1.whole []
  obtain ⟨z, hz, q2⟩ := h2.whole []
  rw [hy] at hz
  cases hz
  exact ⟨y, q, q2⟩
theorem only_two (t u : HI) (w : World) (S : Nat → Prop) (ht : HI.In w S t) (hu : HI.In w S u) (hS : ∀ b, S b → b < w.heap.size) (hk : u.kind = t.kind) : TwoP t.only u.only w := by
  have hi := HI.only_in ht
  have hj := HI.only_in hu
  have hS2 : ∀ W, Below w.heap.size w W → ∀ b, S b → b < W.heap.size := fun W hW b hb => Nat.lt_of_lt_of_le (hS b hb) hW.size
  unfold HI.only at hi hj ⊢
  rw [hk] at hj ⊢
  split
  · rename_i h
    rw [if_pos h] at hi hj
    refine ⟨chkState t.s, stateB t.s, chkState u.s, stateB u.s, fun W hW => putH_2 ⟨2, nilR, t.s, nilG, nilM, nilO⟩ W S (hi.below hW) (hS2 W hW) rfl, fun W hW => putH_2 ⟨2, nilR, u.s, nilG, nilM, nilO⟩ W S (hj.below hW) (hS2 W hW) rfl, fun h0 => ⟨byt_state ht.s.i, ?_⟩, fun h0 => ⟨byt_state hu.s.i, ?_⟩, fun ha => ⟨chkState_al ha.snum ha.s, (stateB_ca ha.snum ha.s).symm⟩, fun z1 z2 he => ?_⟩
    · have := stateB_len (ST.toLT ht.s.i ht.s.nil) (vs_of h0)
      omega
    · have := stateB_len (ST.toLT hu.s.i hu.s.nil) (vs_of h0)
      omega
    · obtain ⟨y, q1, q2⟩ := back_same (back_state (fun j hj => ht.s.i.each j hj) z1) (back_state (fun j hj => hu.s.i.each j hj) z2) he
      have hs := sa_join q1 q2 ht.s.i hu.s.i
      exact ⟨ra_refl _, hs.1, hs.2, rfl, ra_refl _, sg_refl _, mn_refl _⟩
  rename_i n2
  rw [if_neg n2] at hi hj
  split
  · rename_i h
    rw [if_pos h] at hi hj
    refine ⟨chkSeg t.g, segB t.g.to, chkSeg u.g, segB u.g.to, fun W hW => putH_3 ⟨3, nilR, nilS, t.g, nilM, nilO⟩ W S (hi.below hW) (hS2 W hW) rfl, fun W hW => putH_3 ⟨3, nilR, nilS, u.g, nilM, nilO⟩ W S (hj.below hW) (hS2 W hW) rfl, fun h0 => ?_, fun h0 => ?_, fun ha => ⟨chkSeg_al ha.g, (segB_al ha.g).symm⟩, fun z1 z2 he => ?_⟩
    · obtain ⟨f1, f2, f3, f4⟩ := GI.to_fg ht.g h0
      exact ⟨byt_seg (GI.to_in ht.g f2 f4), seg_len (GI.to_in ht.g f2 f4) f1⟩
    · obtain ⟨f1, f2, f3, f4⟩ := GI.to_fg hu.g h0
      exact ⟨byt_seg (GI.to_in hu.g f2 f4), seg_len (GI.to_in hu.g f2 f4) f1⟩
    · obtain ⟨f1, f2, f3, f4⟩ := GI.to_fg ht.g z1
      obtain ⟨g1, g2, g3, g4⟩ := GI.to_fg hu.g z2
      obtain ⟨y, q1, q2⟩ := back_same (back_seg (GI.to_in ht.g f2 f4) f1) (back_seg (GI.to_in hu.g g2 g4) g1) he
      exact ⟨ra_refl _, rfl, cs_refl _, rfl, ra_refl _, ga_join f2 g2 f3 g3 q1 q2 ht.g hu.g, mn_refl _⟩
  rename_i n3
  rw [if_neg n3] at hi hj
  split
  · rename_i h
    rw [if_pos h] at hi hj
    refine ⟨chkMan t.m, manB t.m.to, chkMan u.m, manB u.m.to, fun W hW => putH_4 ⟨4, nilR, nilS, nilG, t.m, nilO⟩ W S (hi.below hW) (hS2 W hW) rfl, fun W hW => putH_4 ⟨4, nilR, nilS, nilG, u.m, nilO⟩ W S (hj.below hW) (hS2 W hW) rfl, fun h0 => ⟨byt_man _, man_len (MI.to_vm ht.m ht.msum h0)⟩, fun h0 => ⟨byt_man _, man_len (MI.to_vm hu.m hu.msum h0)⟩, fun ha => ⟨chkMan_al ha.m, (manB_al ha.m).symm⟩, fun z1 z2 he => ?_⟩
    obtain ⟨a1, a2, a3⟩ := chkMan_zero z1
    obtain ⟨b1, b2, b3⟩ := chkMan_zero z2
    obtain ⟨y, q1, q2⟩ := back_same (back_man (MI.to_vm ht.m ht.msum z1)) (back_man (MI.to_vm hu.m hu.msum z2)) he
    exact ⟨ra_refl _, rfl, cs_refl _, rfl, ra_refl _, sg_refl _, ma_join a1.1 b1.1 (fun j hj => (a3 j hj).1) (fun j hj => (b3 j hj).1) q1 q2⟩
  rename_i n4
  rw [if_neg n4] at hi hj
  split
  · rename_i h
    rw [if_pos h] at hi hj
    refine ⟨chkOut t.o, outB t.o.to, chkOut u.o, outB u.o.to, fun W hW => putH_5 ⟨5, nilR, nilS, nilG, nilM, t.o⟩ W S (hi.below hW) (hS2 W hW) rfl, fun W hW => putH_5 ⟨5, nilR, nilS, nilG, nilM, u.o⟩ W S (hj.below hW) (hS2 W hW) rfl, fun h0 => ?_, fun h0 => ?_, fun ha => ⟨chkOut_al ha.onum ha.o, (outB_al ha.onum ha.o).symm⟩, fun z1 z2 he => ?_⟩
    · obtain ⟨⟨f1, f2⟩, f3⟩ := chkOut_zero h0
      exact ⟨byt_out (o := t.o.to) ht.o, out_len (o := t.o.to) ht.o (by show t.o.num.toNat ≤ _; omega) f3⟩
    · obtain ⟨⟨f1, f2⟩, f3⟩ := chkOut_zero h0
      exact ⟨byt_out (o := u.o.to) hu.o, out_len (o := u.o.to) hu.o (by show u.o.num.toNat ≤ _; omega) f3⟩
    · obtain ⟨⟨f1, f2⟩, f3⟩ := chkOut_zero z1
      obtain ⟨⟨g1, g2⟩, g3⟩ := chkOut_zero z2
      obtain ⟨y, q1, q2⟩ := back_same (back_row (o := t.o.to) ht.o (by show t.o.num.toNat ≤ _; omega) f3) (back_row (o := u.o.to) hu.o (by show u.o.num.toNat ≤ _; omega) g3) he
      have e1 : u.o.num.toNat = t.o.num.toNat := q2.1.symm.trans q1.1
      exact ⟨ra_refl _, rfl, cs_refl _, by show u.o.num = t.o.num; omega, ra_join q1.2 q2.2 ht.o hu.o, sg_refl _, mn_refl _⟩
  rename_i n5
  rw [if_neg n5] at hi hj
  refine ⟨chkRec t.r, recB t.r, chkRec u.r, recB u.r, fun W hW => putH_1 ⟨1, t.r, nilS, nilG, nilM, nilO⟩ W S (hi.below hW) (hS2 W hW) (by simp) (by simp) (by simp) (by simp), fun W hW => putH_1 ⟨1, u.r, nilS, nilG, nilM, nilO⟩ W S (hj.below hW) (hS2 W hW) (by simp) (by simp) (by simp) (by simp), fun h0 => ⟨byt_rec ht.r, ?_⟩, fun h0 => ⟨byt_rec hu.r, ?_⟩, fun ha => ⟨chkRec_alike ha.r, (recB_al ha.r).symm⟩, fun z1 z2 he => ?_⟩
  · have := recB_len ht.r (vr_of h0)
    omega
  · have := recB_len hu.r (vr_of h0)
    omega
  · obtain ⟨y, q1, q2⟩ := back_same (back_rec ht.r z1) (back_rec hu.r z2) he
    exact ⟨ra_join q1 q2 ht.r hu.r, rfl, cs_refl _, rfl, ra_refl _, sg_refl _, mn_refl _⟩
end Go.Proofs.YtfonicphdejdlaaGreat

namespace Go.Proofs.YtfonicphdejdlaaGreat
open Go.RowKit
set_option maxRecDepth 8000
set_option maxHeartbeats 2000000 in
theorem ySame (w : World) (S S' : Nat → Prop) (p p' : Option Addr) (c c' : Nat) (A B : List Int) (h : Byts w S p A.length c (fun j => A.getD j 0)) (h' : Byts w S' p' B.length c' (fun j => B.getD j 0)) : Calls Tryz.prog 14 #[.slice p A.length c, .slice p' B.length c'] w fun x w' => YesNo (A = B) x w w' := by
  by_cases hne : A.length = B.length
  case neg =>
    have hn' := int_ne hne
    have HN : Hid (¬ A = B) := fun e => hne (by rw [e])
    obtain ⟨n, hn⟩ : ∃ n, n = A.length := ⟨_, rfl⟩
    obtain ⟨m, hm⟩ : ∃ m, m = B.length := ⟨_, rfl⟩
    rw [← hn, ← hm] at hn' ⊢
    clear hne hn hm h h'
    go_enter Tryz.func14, Tryz.ntmps14
    go_wp2
    go_ret
    exact yn_no HN.out (Below.refl _ _)
  obtain ⟨n, hn⟩ : ∃ n, n = A.length := ⟨_, rfl⟩
  rw [← hne, ← hn] at h' ⊢
  rw [← hn] at h
  have H := hid h
  have H' := hid h'
  have hnn := h.nn
  have HL := hid (And.intro hn (hn.trans hne))
  clear h h' hn hne
  go_enter Tryz.func14, Tryz.ntmps14
  go_wp2_with fail
  go_loopw [5] (fun x wr => ∃ j : Nat, j ≤ n ∧ x = .int .i64 j ∧ (∀ q, q < j → A.getD q 0 = B.getD q 0) ∧ Below w.heap.size w wr) (fun x _ => n - (intOf x).toNat)
  case atStart => exact ⟨0, Nat.zero_le _, rfl, fun q hq => absurd hq (by omega), Below.refl _ _⟩
  case round =>
    obtain ⟨j, hj, rfl, hA, hbel⟩ := hrel
    have HA := hid hA
    clear hA
    by_cases hlt : j < n
    · have hlt' : (j : Int) < (n : Int) := by omega
      obtain ⟨b1, o1, hp, _, hl1, ha⟩ := H.out.at_ (by omega)
      obtain ⟨b2, o2, hp', _, hl2, ha'⟩ := H'.out.at_ (by omega)
      subst hp hp'
      have d1 := (World.cell?_of_block (a := ⟨b1, o1 + j, none⟩) (hbel.block b1 hl1)).trans (ha j hlt)
      have d2 := (World.cell?_of_block (a := ⟨b2, o2 + j, none⟩) (hbel.block b2 hl2)).trans (ha' j hlt)
      have HB := hid hbel
      clear ha ha' hbel
      obtain ⟨x1, hx1⟩ : ∃ x, x = A.getD j 0 := ⟨_, rfl⟩
      obtain ⟨x2, hx2⟩ : ∃ x, x = B.getD j 0 := ⟨_, rfl⟩
      rw [← hx1] at d1
      rw [← hx2] at d2
      by_cases hx : x1 = x2
      · have HA2 : Hid (∀ q, q < j + 1 → A.getD q 0 = B.getD q 0) := fun q hq => by
          by_cases h : q < j
          · exact HA.out q h
          · obtain rfl : q = j := by omega
            rw [← hx1, ← hx2, hx]
        subst hx
        clear hx1 hx2
        go_wp2_with fail
        go_region
        all_goals
          go_wp2
          go_roundw
          case rel => exact ⟨j + 1, by omega, by go_num, HA2.out, HB.out.drew⟩
          case measure => simp [intOf]; omega
      · have hx' := z_ne hx
        have HN : Hid (¬ A = B) := fun e => hx (by rw [hx1, hx2, e])
        clear hx hx1 hx2
        go_wp2_with fail
        go_region
        all_goals
          go_wp2
          go_ret
          exact yn_no HN.out HB.out.drew
    · obtain rfl : j = n := by omega
      have hlt' : ¬ (j : Int) < (j : Int) := by omega
      have HB := hid hbel
      have HE : Hid (A = B) := by
        apply List.ext_getElem (HL.out.1.symm.trans HL.out.2)
        intro q h1 h2
        have := HA.out q (by rw [HL.out.1]; exact h1)
        simpa [List.getD_eq_getElem?_getD, List.getElem?_eq_getElem h1, List.getElem?_eq_getElem h2] using this
      clear hbel
      go_wp2
      go_ret
      exact yn_yes HE.out HB.out
theorem HI.kind_in {w : World} {S : Nat → Prop} {u : HI} {k : Int} (h : HI.In w S u) (h0 : -9223372036854775808 ≤ k) (h1 : k ≤ 9223372036854775807) : HI.In w S { u with kind := k } :=
  ⟨h0, h1, h.r, h.s, h.g, h.m, h.msum, h.m0, h.m1, h.o, h.o0, h.o1⟩
theorem putR_any {k : Nat} {E : List Int} {W : World} {x : Ending} {w' : World} (h : PutR k E W x w') (hE : k = 0 → Byt E ∧ E.length ≤ 5000000) :
    ∃ p n c, x = .returned (.tuple #[.slice p n c, .int .i64 (k : Int)]) ∧ Below W.heap.size W w' ∧ (k = 0 → n = E.length ∧ Byts w' (fun b => W.heap.size ≤ b) p E.length c (fun j => E.getD j 0)) := by
  by_cases h0 : k = 0
  · obtain ⟨v, e, ho, hb⟩ := h.1 h0
    obtain ⟨h1, h2⟩ := hE h0
    obtain ⟨p, c, rfl, hy⟩ := ho.byts h1 (by omega)
    exact ⟨p, E.length, c, by rw [e, h0]; rfl, hb, fun _ => ⟨rfl, hy⟩⟩
  · obtain ⟨e, hb⟩ := h.2 h0
    exact ⟨none, 0, 0, e, hb, fun h => absurd h h0⟩
end Go.Proofs.YtfonicphdejdlaaGreat

namespace Go.Proofs.YtfonicphdejdlaaGreat
open Go.RowKit
set_option maxRecDepth 8000
/-- what is done of the last statement of WireUnlike -/
structure Ul (P1 P2 : Prop) (p8 : Option Addr) (n1 c8 : Nat) (p9 : Option Addr) (n2 c9 : Nat) (cA cB : Array Value) (W : World) (D : Nat → Prop) (w : World) (t4 t51 t52 t53 t54 t55 t56 t57 : Value) : Prop where
  kp : Below W.heap.size W w
  f0 : D 0 → t51 = .slice p8 n1 c8
  f1 : D 1 → t52 = .slice p9 n2 c9
  f2 : D 2 → ∃ r : Bool, t53 = .bool r ∧ (r = true ↔ P1)
  f3 : D 3 → t54 = .agg cA
  f4 : D 4 → t55 = .agg cB
  f5 : D 5 → ∃ r : Bool, t56 = .bool r ∧ (r = true ↔ P2)
  f6 : D 6 → t57 = .bool true
  f7 : D 7 → t4 = .bool true
def UlI (T : Value → Value → Value → Value → Value → Value → Value → Value → Array Value) (P1 P2 : Prop) (p8 : Option Addr) (n1 c8 : Nat) (p9 : Option Addr) (n2 c9 : Nat) (cA cB : Array Value) (W : World) (D : Nat → Prop) (c : Act) (w : World) : Prop :=
  ∃ t4 t51 t52 t53 t54 t55 t56 t57, c = { tmps := T t4 t51 t52 t53 t54 t55 t56 t57, defers := [] } ∧ Ul P1 P2 p8 n1 c8 p9 n2 c9 cA cB W D w t4 t51 t52 t53 t54 t55 t56 t57
set_option maxHeartbeats 8000000 in
theorem un_tail (x0 x1 x6 x8 x9 x10 x11 x12 x13 x14 x15 x16 x17 x18 x19 x20 x21 x22 x23 x24 x25 x26 x27 x28 x29 x30 x31 x32 x33 x34 x35 x36 x37 x38 x39 x40 x41 x42 x43 x44 x45 x46 x47 x48 x49 x50 : Value) (W : World) (hb : Nat) (P1 P2 : Prop) (p8 : Option Addr) (n1 c8 : Nat) (p9 : Option Addr) (n2 c9 : Nat) (cA cB : Array Value) (y4 y51 y52 y53 y54 y55 y56 y57 : Value) (hsA : cA.size = 30) (hsB : cB.size = 30) (hA : Box W hb cA 45) (hB : Box W (hb + 1) cB 45) (hPP : P1 ↔ P2)
    (h1 : ∀ w, Below W.heap.size W w → Calls Tryz.prog 14 #[.slice p8 n1 c8, .slice p9 n2 c9] w fun x w' => YesNo P1 x w w')
    (h2 : ∀ w, Below W.heap.size W w → Calls Tryz.prog 13 #[.agg cA, .agg cB] w fun x w' => YesNo P2 x w w') (Q : Exit → Act → World → Prop)
    (hQ : ∀ w' t51 t52 t53 t54 t55 t56 t57, Below W.heap.size W w' → Q .normal { tmps := #[x0, x1, .pointer (some ⟨hb, 0, none⟩), .pointer (some ⟨hb + 1, 0, none⟩), .bool true, .slice p8 n1 c8, x6, .slice p9 n2 c9, x8, x9, x10, x11, x12, x13, x14, x15, x16, x17, x18, x19, x20, x21, x22, x23, x24, x25, x26, x27, x28, x29, x30, x31, x32, x33, x34, x35, x36, x37, x38, x39, x40, x41, x42, x43, x44, x45, x46, x47, x48, x49, x50, t51, t52, t53, t54, t55, t56, t57], defers := [] } w') :
    (Code.region 12 #[{ dst := some 51, op := Op.move (Operand.tmp 5), type := 49, pos := "whatfor.go:117", after := #[], guard := none },
        { dst := some 52, op := Op.move (Operand.tmp 7), type := 49, pos := "whatfor.go:117", after := #[], guard := none },
        { dst := some 53, op := Op.call { callee := Callee.value (Operand.func 14), args := #[Operand.tmp 51, Operand.tmp 52], argTypes := #[49, 49] }, type := 4, pos := "whatfor.go:117", after := #[{ on := 0, ground := Ground.data }, { on := 1, ground := Ground.data }], guard := none },
        { dst := some 54, op := Op.load 45 (Operand.tmp 2), type := 45, pos := "whatfor.go:117", after := #[], guard := none },
        { dst := some 55, op := Op.load 45 (Operand.tmp 3), type := 45, pos := "whatfor.go:117", after := #[], guard := none },
        { dst := some 56, op := Op.call { callee := Callee.value (Operand.func 13), args := #[Operand.tmp 54, Operand.tmp 55], argTypes := #[45, 45] }, type := 4, pos := "whatfor.go:117", after := #[{ on := 3, ground := Ground.data }, { on := 4, ground := Ground.data }, { on := 2, ground := Ground.chain }], guard := none },
        { dst := some 57, op := Op.binOp BinOp.eql 4 (Operand.tmp 53) (Operand.tmp 56) 4, type := 4, pos := "whatfor.go:117", after := #[{ on := 2, ground := Ground.data }, { on := 5, ground := Ground.data }], guard := none },
        { dst := some 4, op := Op.assign (Operand.tmp 57), type := 4, pos := "whatfor.go:117", after := #[{ on := 6, ground := Ground.data }, { on := 5, ground := Ground.chain }, { on := 0, ground := Ground.phase }, { on := 1, ground := Ground.phase }, { on := 2, ground := Ground.phase }, { on := 3, ground := Ground.phase }, { on := 4, ground := Ground.phase }, { on := 5, ground := Ground.phase }, { on := 6, ground := Ground.phase }], guard := none }] true).wp Tryz.prog Q { tmps := #[x0, x1, .pointer (some ⟨hb, 0, none⟩), .pointer (some ⟨hb + 1, 0, none⟩), y4, .slice p8 n1 c8, x6, .slice p9 n2 c9, x8, x9, x10, x11, x12, x13, x14, x15, x16, x17, x18, x19, x20, x21, x22, x23, x24, x25, x26, x27, x28, x29, x30, x31, x32, x33, x34, x35, x36, x37, x38, x39, x40, x41, x42, x43, x44, x45, x46, x47, x48, x49, x50, y51, y52, y53, y54, y55, y56, y57], defers := [] } W := by
  refine wp_region_inv (by kernel_rfl) (UlI (fun t4 t51 t52 t53 t54 t55 t56 t57 => #[x0, x1, .pointer (some ⟨hb, 0, none⟩), .pointer (some ⟨hb + 1, 0, none⟩), t4, .slice p8 n1 c8, x6, .slice p9 n2 c9, x8, x9, x10, x11, x12, x13, x14, x15, x16, x17, x18, x19, x20, x21, x22, x23, x24, x25, x26, x27, x28, x29, x30, x31, x32, x33, x34, x35, x36, x37, x38, x39, x40, x41, x42, x43, x44, x45, x46, x47, x48, x49, x50, t51, t52, t53, t54, t55, t56, t57]) P1 P2 p8 n1 c8 p9 n2 c9 cA cB W) ?_ (by kernel_rfl) ?_ ?_ ?_
  · rintro D D' c w1 hD ⟨t4, t51, t52, t53, t54, t55, t56, t57, h, hK⟩
    have e : D = D' := funext fun j => propext (hD j)
    subst e
    exact ⟨t4, t51, t52, t53, t54, t55, t56, t57, h, hK⟩
  · intro D hD
    exact ⟨_, _, _, _, _, _, _, _, rfl, (Below.refl _ _).drew, fun h => absurd h (hD _), fun h => absurd h (hD _), fun h => absurd h (hD _), fun h => absurd h (hD _), fun h => absurd h (hD _), fun h => absurd h (hD _), fun h => absurd h (hD _), fun h => absurd h (hD _)⟩
  · intro D c w1 hI j o hi hnd hdep
    obtain ⟨t4, t51, t52, t53, t54, t55, t56, t57, rfl, hK⟩ := hI
    have hlt : j < 8 := (Array.getElem?_eq_some_iff.1 hi).1
    match j, hlt with
    | 0, _ =>
      cases hi
      refine wpOp_wp rfl rfl ?_
      simp [Oper.wp, execOp, go_sem, Oper.upon, Act.eval, Act.put]
      exact ⟨_, _, _, _, _, _, _, _, rfl, hK.kp, fun _ => rfl, fun h => hK.f1 (or_of h (by decide)), fun h => hK.f2 (or_of h (by decide)), fun h => hK.f3 (or_of h (by decide)), fun h => hK.f4 (or_of h (by decide)), fun h => hK.f5 (or_of h (by decide)), fun h => hK.f6 (or_of h (by decide)), fun h => hK.f7 (or_of h (by decide))⟩
    | 1, _ =>
      cases hi
      refine wpOp_wp rfl rfl ?_
      simp [Oper.wp, execOp, go_sem, Oper.upon, Act.eval, Act.put]
      exact ⟨_, _, _, _, _, _, _, _, rfl, hK.kp, fun h => hK.f0 (or_of h (by decide)), fun _ => rfl, fun h => hK.f2 (or_of h (by decide)), fun h => hK.f3 (or_of h (by decide)), fun h => hK.f4 (or_of h (by decide)), fun h => hK.f5 (or_of h (by decide)), fun h => hK.f6 (or_of h (by decide)), fun h => hK.f7 (or_of h (by decide))⟩
    | 2, _ =>
      cases hi
      simp [Region.binds] at hdep
      obtain rfl := hK.f0 hdep.1
      obtain rfl := hK.f1 hdep.2
      have hst := step_call (Q := Q) (E := False) (ops := #[{ dst := some 51, op := Op.move (Operand.tmp 5), type := 49, pos := "whatfor.go:117", after := #[], guard := none },
        { dst := some 52, op := Op.move (Operand.tmp 7), type := 49, pos := "whatfor.go:117", after := #[], guard := none },
        { dst := some 53, op := Op.call { callee := Callee.value (Operand.func 14), args := #[Operand.tmp 51, Operand.tmp 52], argTypes := #[49, 49] }, type := 4, pos := "whatfor.go:117", after := #[{ on := 0, ground := Ground.data }, { on := 1, ground := Ground.data }], guard := none },
        { dst := some 54, op := Op.load 45 (Operand.tmp 2), type := 45, pos := "whatfor.go:117", after := #[], guard := none },
        { dst := some 55, op := Op.load 45 (Operand.tmp 3), type := 45, pos := "whatfor.go:117", after := #[], guard := none },
        { dst := some 56, op := Op.call { callee := Callee.value (Operand.func 13), args := #[Operand.tmp 54, Operand.tmp 55], argTypes := #[45, 45] }, type := 4, pos := "whatfor.go:117", after := #[{ on := 3, ground := Ground.data }, { on := 4, ground := Ground.data }, { on := 2, ground := Ground.chain }], guard := none },
        { dst := some 57, op := Op.binOp BinOp.eql 4 (Operand.tmp 53) (Operand.tmp 56) 4, type := 4, pos := "whatfor.go:117", after := #[{ on := 2, ground := Ground.data }, { on := 5, ground := Ground.data }], guard := none },
        { dst := some 4, op := Op.assign (Operand.tmp 57), type := 4, pos := "whatfor.go:117", after := #[{ on := 6, ground := Ground.data }, { on := 5, ground := Ground.chain }, { on := 0, ground := Ground.phase }, { on := 1, ground := Ground.phase }, { on := 2, ground := Ground.phase }, { on := 3, ground := Ground.phase }, { on := 4, ground := Ground.phase }, { on := 5, ground := Ground.phase }, { on := 6, ground := Ground.phase }], guard := none }]) (a := { tmps := #[x0, x1, .pointer (some ⟨hb, 0, none⟩), .pointer (some ⟨hb + 1, 0, none⟩), t4, .slice p8 n1 c8, x6, .slice p9 n2 c9, x8, x9, x10, x11, x12, x13, x14, x15, x16, x17, x18, x19, x20, x21, x22, x23, x24, x25, x26, x27, x28, x29, x30, x31, x32, x33, x34, x35, x36, x37, x38, x39, x40, x41, x42, x43, x44, x45, x46, x47, x48, x49, x50, (.slice p8 n1 c8), (.slice p9 n2 c9), t53, t54, t55, t56, t57], defers := [] }) (w := w1) (K := UlI (fun t4 t51 t52 t53 t54 t55 t56 t57 => #[x0, x1, .pointer (some ⟨hb, 0, none⟩), .pointer (some ⟨hb + 1, 0, none⟩), t4, .slice p8 n1 c8, x6, .slice p9 n2 c9, x8, x9, x10, x11, x12, x13, x14, x15, x16, x17, x18, x19, x20, x21, x22, x23, x24, x25, x26, x27, x28, x29, x30, x31, x32, x33, x34, x35, x36, x37, x38, x39, x40, x41, x42, x43, x44, x45, x46, x47, x48, x49, x50, t51, t52, t53, t54, t55, t56, t57]) P1 P2 p8 n1 c8 p9 n2 c9 cA cB W fun j => D j ∨ j = 2) (o := { dst := some 53, op := Op.call { callee := Callee.value (Operand.func 14), args := #[Operand.tmp 51, Operand.tmp 52], argTypes := #[49, 49] }, type := 4, pos := "whatfor.go:117", after := #[{ on := 0, ground := Ground.data }, { on := 1, ground := Ground.data }], guard := none }) rfl 14 #[.tmp 51, .tmp 52] _ rfl Tryz.f14 Tryz.func14 (by kernel_rfl) rfl #[.slice p8 n1 c8, .slice p9 n2 c9] rfl _ (h1 w1 hK.kp) (fun e w' h => by
        obtain ⟨r, rfl, hr, hb1⟩ := h
        exact ⟨_, rfl, _, _, _, _, _, _, _, _, rfl, hK.kp.trans (hb1.mono hK.kp.size), fun h => hK.f0 (or_of h (by decide)), fun h => hK.f1 (or_of h (by decide)), fun _ => ⟨r, rfl, hr⟩, fun h => hK.f3 (or_of h (by decide)), fun h => hK.f4 (or_of h (by decide)), fun h => hK.f5 (or_of h (by decide)), fun h => hK.f6 (or_of h (by decide)), fun h => hK.f7 (or_of h (by decide))⟩)
      rw [if_pos (by simp [Region.wanted])] at hst
      exact wpOp_wp rfl rfl hst
    | 3, _ =>
      cases hi
      refine wpOp_wp rfl rfl (wp_load_row 45 (.tmp 2) rfl hb rfl 45 cA (0, 0) _ (hA.below hK.kp) Tryz.underlying45 rfl (by rw [hsA]; exact info45) ?_)
      exact ⟨_, _, _, _, _, _, _, _, rfl, hK.kp, fun h => hK.f0 (or_of h (by decide)), fun h => hK.f1 (or_of h (by decide)), fun h => hK.f2 (or_of h (by decide)), fun _ => rfl, fun h => hK.f4 (or_of h (by decide)), fun h => hK.f5 (or_of h (by decide)), fun h => hK.f6 (or_of h (by decide)), fun h => hK.f7 (or_of h (by decide))⟩
    | 4, _ =>
      cases hi
      refine wpOp_wp rfl rfl (wp_load_row 45 (.tmp 3) rfl (hb + 1) rfl 45 cB (0, 0) _ (hB.below hK.kp) Tryz.underlying45 rfl (by rw [hsB]; exact info45) ?_)
      exact ⟨_, _, _, _, _, _, _, _, rfl, hK.kp, fun h => hK.f0 (or_of h (by decide)), fun h => hK.f1 (or_of h (by decide)), fun h => hK.f2 (or_of h (by decide)), fun h => hK.f3 (or_of h (by decide)), fun _ => rfl, fun h => hK.f5 (or_of h (by decide)), fun h => hK.f6 (or_of h (by decide)), fun h => hK.f7 (or_of h (by decide))⟩
    | 5, _ =>
      cases hi
      simp [Region.binds] at hdep
      obtain rfl := hK.f3 hdep.1
      obtain rfl := hK.f4 (by first | exact hdep.2 | exact hdep.2.1)
      have hst := step_call (Q := Q) (E := False) (ops := #[{ dst := some 51, op := Op.move (Operand.tmp 5), type := 49, pos := "whatfor.go:117", after := #[], guard := none },
        { dst := some 52, op := Op.move (Operand.tmp 7), type := 49, pos := "whatfor.go:117", after := #[], guard := none },
        { dst := some 53, op := Op.call { callee := Callee.value (Operand.func 14), args := #[Operand.tmp 51, Operand.tmp 52], argTypes := #[49, 49] }, type := 4, pos := "whatfor.go:117", after := #[{ on := 0, ground := Ground.data }, { on := 1, ground := Ground.data }], guard := none },
        { dst := some 54, op := Op.load 45 (Operand.tmp 2), type := 45, pos := "whatfor.go:117", after := #[], guard := none },
        { dst := some 55, op := Op.load 45 (Operand.tmp 3), type := 45, pos := "whatfor.go:117", after := #[], guard := none },
        { dst := some 56, op := Op.call { callee := Callee.value (Operand.func 13), args := #[Operand.tmp 54, Operand.tmp 55], argTypes := #[45, 45] }, type := 4, pos := "whatfor.go:117", after := #[{ on := 3, ground := Ground.data }, { on := 4, ground := Ground.data }, { on := 2, ground := Ground.chain }], guard := none },
        { dst := some 57, op := Op.binOp BinOp.eql 4 (Operand.tmp 53) (Operand.tmp 56) 4, type := 4, pos := "whatfor.go:117", after := #[{ on := 2, ground := Ground.data }, { on := 5, ground := Ground.data }], guard := none },
        { dst := some 4, op := Op.assign (Operand.tmp 57), type := 4, pos := "whatfor.go:117", after := #[{ on := 6, ground := Ground.data }, { on := 5, ground := Ground.chain }, { on := 0, ground := Ground.phase }, { on := 1, ground := Ground.phase }, { on := 2, ground := Ground.phase }, { on := 3, ground := Ground.phase }, { on := 4, ground := Ground.phase }, { on := 5, ground := Ground.phase }, { on := 6, ground := Ground.phase }], guard := none }]) (a := { tmps := #[x0, x1, .pointer (some ⟨hb, 0, none⟩), .pointer (some ⟨hb + 1, 0, none⟩), t4, .slice p8 n1 c8, x6, .slice p9 n2 c9, x8, x9, x10, x11, x12, x13, x14, x15, x16, x17, x18, x19, x20, x21, x22, x23, x24, x25, x26, x27, x28, x29, x30, x31, x32, x33, x34, x35, x36, x37, x38, x39, x40, x41, x42, x43, x44, x45, x46, x47, x48, x49, x50, t51, t52, t53, (.agg cA), (.agg cB), t56, t57], defers := [] }) (w := w1) (K := UlI (fun t4 t51 t52 t53 t54 t55 t56 t57 => #[x0, x1, .pointer (some ⟨hb, 0, none⟩), .pointer (some ⟨hb + 1, 0, none⟩), t4, .slice p8 n1 c8, x6, .slice p9 n2 c9, x8, x9, x10, x11, x12, x13, x14, x15, x16, x17, x18, x19, x20, x21, x22, x23, x24, x25, x26, x27, x28, x29, x30, x31, x32, x33, x34, x35, x36, x37, x38, x39, x40, x41, x42, x43, x44, x45, x46, x47, x48, x49, x50, t51, t52, t53, t54, t55, t56, t57]) P1 P2 p8 n1 c8 p9 n2 c9 cA cB W fun j => D j ∨ j = 5) (o := { dst := some 56, op := Op.call { callee := Callee.value (Operand.func 13), args := #[Operand.tmp 54, Operand.tmp 55], argTypes := #[45, 45] }, type := 4, pos := "whatfor.go:117", after := #[{ on := 3, ground := Ground.data }, { on := 4, ground := Ground.data }, { on := 2, ground := Ground.chain }], guard := none }) rfl 13 #[.tmp 54, .tmp 55] _ rfl Tryz.f13 Tryz.func13 (by kernel_rfl) rfl #[.agg cA, .agg cB] rfl _ (h2 w1 hK.kp) (fun e w' h => by
        obtain ⟨r, rfl, hr, hb1⟩ := h
        exact ⟨_, rfl, _, _, _, _, _, _, _, _, rfl, hK.kp.trans (hb1.mono hK.kp.size), fun h => hK.f0 (or_of h (by decide)), fun h => hK.f1 (or_of h (by decide)), fun h => hK.f2 (or_of h (by decide)), fun h => hK.f3 (or_of h (by decide)), fun h => hK.f4 (or_of h (by decide)), fun _ => ⟨r, rfl, hr⟩, fun h => hK.f6 (or_of h (by decide)), fun h => hK.f7 (or_of h (by decide))⟩)
      rw [if_pos (by simp [Region.wanted])] at hst
      exact wpOp_wp rfl rfl hst
    | 6, _ =>
      cases hi
      simp [Region.binds] at hdep
      obtain ⟨r1, rfl, hr1⟩ := hK.f2 hdep.1
      obtain ⟨r2, rfl, hr2⟩ := hK.f5 hdep.2
      have hrr : r1 = r2 := by
        have h1 : r1 = true ↔ r2 = true := by rw [hr1, hr2]; exact hPP
        cases r1 <;> cases r2 <;> simp_all
      subst hrr
      refine wpOp_wp rfl rfl ?_
      cases r1
      · simp [Oper.wp, execOp, go_sem, Oper.upon, Act.eval, Act.put]
        exact ⟨_, _, _, _, _, _, _, _, rfl, hK.kp, fun h => hK.f0 (or_of h (by decide)), fun h => hK.f1 (or_of h (by decide)), fun h => hK.f2 (or_of h (by decide)), fun h => hK.f3 (or_of h (by decide)), fun h => hK.f4 (or_of h (by decide)), fun h => hK.f5 (or_of h (by decide)), fun _ => rfl, fun h => hK.f7 (or_of h (by decide))⟩
      · simp [Oper.wp, execOp, go_sem, Oper.upon, Act.eval, Act.put]
        exact ⟨_, _, _, _, _, _, _, _, rfl, hK.kp, fun h => hK.f0 (or_of h (by decide)), fun h => hK.f1 (or_of h (by decide)), fun h => hK.f2 (or_of h (by decide)), fun h => hK.f3 (or_of h (by decide)), fun h => hK.f4 (or_of h (by decide)), fun h => hK.f5 (or_of h (by decide)), fun _ => rfl, fun h => hK.f7 (or_of h (by decide))⟩
    | 7, _ =>
      cases hi
      simp [Region.binds] at hdep
      obtain rfl := hK.f6 (by first | exact hdep | exact hdep.1 | exact hdep.2 | exact hdep.2.1)
      refine wpOp_wp rfl rfl ?_
      simp [Oper.wp, execOp, go_sem, Oper.upon, Act.eval, Act.put]
      exact ⟨_, _, _, _, _, _, _, _, rfl, hK.kp, fun h => hK.f0 (or_of h (by decide)), fun h => hK.f1 (or_of h (by decide)), fun h => hK.f2 (or_of h (by decide)), fun h => hK.f3 (or_of h (by decide)), fun h => hK.f4 (or_of h (by decide)), fun h => hK.f5 (or_of h (by decide)), fun h => hK.f6 (or_of h (by decide)), fun _ => rfl⟩
  · rintro D c w1 ⟨t4, t51, t52, t53, t54, t55, t56, t57, rfl, hK⟩ hall
    obtain rfl := hK.f7 (hall 7 (by decide))
    exact hQ w1 _ _ _ _ _ _ _ hK.kp
end Go.Proofs.YtfonicphdejdlaaGreat

namespace Go.Proofs.YtfonicphdejdlaaGreat
open Go.RowKit
set_option maxRecDepth 8000
set_option maxHeartbeats 8000000 in
theorem unlike_walk (t u : HI) (w : World) (S : Nat → Prop) (hin : HI.In w S t) (hiu : HI.In w S u) (hS : ∀ b, S b → b < w.heap.size) : Calls Tryz.prog 6 #[.agg t.cells, .agg u.cells] w fun x w' => x = .returned (.bool true) ∧ Below w.heap.size w w' := by
  have H := fun W => known_any W
  have hb0 : Below w.heap.size w ((w.alloc (.cells t.cells 45)).alloc (.cells u.cells 45)) := ((Below.refl _ _).alloc (Nat.le_refl _) _).alloc (by simp) _
  have hx0 := (Box.new w t.cells 45).below ((Below.refl _ _).alloc (Nat.le_refl _) (.cells u.cells 45))
  have hy0 := Box.new (w.alloc (.cells t.cells 45)) u.cells 45
  rw [show (w.alloc (.cells t.cells 45)).heap.size = w.heap.size + 1 by simp] at hy0
  have HX0 := hid hx0
  have HY0 := hid hy0
  have HB0 := hid hb0
  have HT0 : Hid (t.cells[0]? = some (.int .i64 t.kind)) := rfl
  have HU0 : Hid (u.cells[0]? = some (.int .i64 u.kind)) := rfl
  have HTs := hid (HI.size t)
  have HUs := hid (HI.size u)
  have hiv : HI.In w S { u with kind := t.kind } := HI.kind_in hiu hin.k0 hin.k1
  have H2 := hid (only_two t { u with kind := t.kind } w S hin hiv hS rfl)
  have HOt := hid (fun W => only_any t W)
  have HOu := hid (fun W => only_any { u with kind := t.kind } W)
  have HIt := hid (HI.only_in hin)
  have HIu := hid (HI.only_in hiv)
  have HSb := hid hS
  have HU' : Hid (u.cells.setIfInBounds 0 (.int .i64 t.kind) = HI.cells { u with kind := t.kind }) := rfl
  obtain ⟨v, hv⟩ : ∃ v : HI, v = { u with kind := t.kind } := ⟨_, rfl⟩
  rw [← hv] at H2 HOu HIu HU'
  have HVs := hid (HI.size v)
  obtain ⟨t1, ht1⟩ : ∃ x, x = t.only := ⟨_, rfl⟩
  obtain ⟨v1, hv1⟩ : ∃ x, x = v.only := ⟨_, rfl⟩
  rw [← ht1] at H2 HOt HIt
  rw [← hv1] at H2 HOu HIu
  clear hin hiu hS hiv hv ht1 hv1
  clear hx0 hy0 hb0
  obtain ⟨cT, hcT⟩ : ∃ cT, cT = t.cells := ⟨_, rfl⟩
  obtain ⟨cU, hcU⟩ : ∃ cU, cU = u.cells := ⟨_, rfl⟩
  have HcU := hid hcU
  have HcT := hid hcT
  rw [← hcT] at HX0 HB0 HY0 HT0 HTs HOt ⊢
  rw [← hcU] at HX0 HB0 HY0 HU0 HUs HU' ⊢
  clear hcT hcU
  go_enter Tryz.func6, Tryz.ntmps6
  go_wp2_with fail
  refine (H _).mono ?_
  rintro x w1 ⟨rfl, hb1⟩
  have HX1 := hid (HX0.out.below hb1)
  have HY1 := hid (HY0.out.below hb1)
  have HB1 := hid (HB0.out.trans (hb1.mono HB0.out.size))
  have x0 := (HX1.out.cell 0).trans HT0.out
  have y0 := (HY1.out.cell 0).trans HU0.out
  have fy := HY1.out.frozen 0
  have hks : But (fun y => y = w.heap.size + 1) w1 (w1.setCell ⟨w.heap.size + 1, 0, none⟩ (.int .i64 t.kind)) := (But.refl _ _).setAt 0 _
  have HXs := hid (HX1.out.but hks (by omega))
  have HYs := hid (HY1.out.set 0 (.int .i64 t.kind))
  rw [HU'.out] at HYs
  have HBs := hid (HB1.out.trans (hks.below HB1.out.size (fun b hb h => by omega)))
  clear H hb1 HX0 HY0 HB0 hks
  go_wp2_with (refine wpList_load_row rfl 45 (.tmp 2) rfl w.heap.size rfl 45 cT (0, 0) _ HXs.out Tryz.underlying45 rfl (by rw [info45, HTs.out]) ?_)
  clear x0 y0 fy HX1 HY1 HB1
  obtain ⟨ws, hws⟩ : ∃ ws, ws = w1.setCell ⟨w.heap.size + 1, 0, none⟩ (.int .i64 t.kind) := ⟨_, rfl⟩
  rw [← hws] at HXs HYs HBs ⊢
  clear hws
  refine (HOt.out _).mono ?_
  rintro x w2 ⟨rfl, hb2⟩
  have HX2 := hid (HXs.out.below hb2)
  have HY2 := hid (HYs.out.below hb2)
  have HB2 := hid (HBs.out.trans (hb2.mono HBs.out.size))
  clear hb2 HXs HYs HBs HOt
  have HS1 := hid (HI.size t1)
  have HO1 := hid (HI.one t1)
  have HSv1 := hid (HI.size v1)
  have HOv1 := hid (HI.one v1)
  have HM1 : Hid (∀ W, Below w.heap.size w W → Calls Tryz.prog 9 #[.agg t1.cells] W fun x w' => ∃ b, x = .returned (.bool b) ∧ Below W.heap.size W w') := fun W hW => small_any t1 W S (HIt.out.below hW) (fun b hb => Nat.lt_of_lt_of_le (HSb.out b hb) hW.size)
  have HM2 : Hid (∀ W, Below w.heap.size w W → Calls Tryz.prog 9 #[.agg v1.cells] W fun x w' => ∃ b, x = .returned (.bool b) ∧ Below W.heap.size W w') := fun W hW => small_any v1 W S (HIu.out.below hW) (fun b hb => Nat.lt_of_lt_of_le (HSb.out b hb) hW.size)
  have HSm : Hid (∀ W, Below w.heap.size w W → Calls Tryz.prog 13 #[.agg t1.cells, .agg v1.cells] W fun e w' => YesNo (ThAlike t1 v1) e W w') := fun W hW => yThing t1 v1 W S S (HIt.out.below hW) (HIu.out.below hW)
  obtain ⟨k1, E1, k2, E2, hp1, hp2, hE1, hE2, hal, hla⟩ := H2.out
  have HP1 := hid hp1
  have HP2 := hid hp2
  have HE := hid (And.intro hE1 hE2)
  have HAl := hid (And.intro hal hla)
  clear hp1 hp2 hE1 hE2 hal hla H2
  obtain ⟨cV, hcV⟩ : ∃ c, c = v.cells := ⟨_, rfl⟩
  obtain ⟨cA, hcA⟩ : ∃ c, c = t1.cells := ⟨_, rfl⟩
  obtain ⟨cB, hcB⟩ : ∃ c, c = v1.cells := ⟨_, rfl⟩
  rw [← hcV] at HY2 HVs HOu
  rw [← hcA] at HS1 HO1 HM1 HSm HP1 ⊢
  rw [← hcB] at HSv1 HOv1 HM2 HSm HP2 HOu
  clear hcV hcA hcB
  go_wp2_with (refine wpList_store_any rfl 45 (.tmp 2) (.tmp 15) rfl w.heap.size cA rfl rfl 45 cT HX2.out (by rw [info45, HS1.out]) (by rw [HTs.out, HS1.out]) HO1.out ?_)
  intro w3 ht3 hk3
  have HX3 := hid ht3
  have HY3 := hid (HY2.out.but hk3 (by omega))
  have HB3 := hid (HB2.out.trans (hk3.below HB2.out.size (fun b hb h => by omega)))
  clear ht3 hk3 HX2 HY2 HB2
  go_wp2_with (refine wpList_load_row rfl 45 (.tmp 3) rfl (w.heap.size + 1) rfl 45 cV (0, 0) _ HY3.out Tryz.underlying45 rfl (by rw [info45, HVs.out]) ?_)
  refine (HOu.out _).mono ?_
  rintro x w4 ⟨rfl, hb4⟩
  have HX4 := hid (HX3.out.below hb4)
  have HY4 := hid (HY3.out.below hb4)
  have HB4 := hid (HB3.out.trans (hb4.mono HB3.out.size))
  clear hb4 HX3 HY3 HB3 HOu
  go_wp2_with (refine wpList_store_any rfl 45 (.tmp 3) (.tmp 17) rfl (w.heap.size + 1) cB rfl rfl 45 cV HY4.out (by rw [info45, HSv1.out]) (by rw [HVs.out, HSv1.out]) HOv1.out ?_)
  intro w5 ht5 hk5
  have HY5 := hid ht5
  have HX5 := hid (HX4.out.but hk5 (by omega))
  have HB5 := hid (HB4.out.trans (hk5.below HB4.out.size (fun b hb h => by omega)))
  clear ht5 hk5 HX4 HY4 HB4
  go_wp2_with (refine wpList_load_row rfl 45 (.tmp 2) rfl w.heap.size rfl 45 cA (0, 0) _ HX5.out Tryz.underlying45 rfl (by rw [info45, HS1.out]) ?_)
  refine (HM1.out _ HB5.out).mono ?_
  rintro x w6 ⟨s1, rfl, hb6⟩
  have HX6 := hid (HX5.out.below hb6)
  have HY6 := hid (HY5.out.below hb6)
  have HB6 := hid (HB5.out.trans (hb6.mono HB5.out.size))
  clear hb6 HX5 HY5 HB5 HM1
  cases s1
  · go_wp2
    go_ret
    exact ⟨rfl, HB6.out⟩
  go_wp2_with (refine wpList_load_row_g 45 (.tmp 3) rfl (w.heap.size + 1) rfl 45 cB (0, 0) _ rfl HY6.out Tryz.underlying45 (by rw [info45, HSv1.out]) (by simp [Region.wanted, yielded, go_sem]) ?_)
  refine (HM2.out _ HB6.out).mono ?_
  rintro x w7 ⟨s2, rfl, hb7⟩
  have HX7 := hid (HX6.out.below hb7)
  have HY7 := hid (HY6.out.below hb7)
  have HB7 := hid (HB6.out.trans (hb7.mono HB6.out.size))
  clear hb7 HX6 HY6 HB6 HM2
  cases s2
  · go_wp2
    go_ret
    exact ⟨rfl, HB7.out⟩
  go_wp2_with (refine wpList_load_row rfl 45 (.tmp 2) rfl w.heap.size rfl 45 cA (0, 0) _ HX7.out Tryz.underlying45 rfl (by rw [info45, HS1.out]) ?_)
  refine (HP1.out _ HB7.out).mono ?_
  rintro x w8 hq
  obtain ⟨p8, n8, c8, rfl, hb8, hy8⟩ := putR_any hq HE.out.1
  have HX8 := hid (HX7.out.below hb8)
  have HY8 := hid (HY7.out.below hb8)
  have HB8 := hid (HB7.out.trans (hb8.mono HB7.out.size))
  have HZ8 := hid hy8
  clear hb8 hq hy8 HX7 HY7 HB7 HP1
  go_wp2_with (refine wpList_load_row rfl 45 (.tmp 3) rfl (w.heap.size + 1) rfl 45 cB (0, 0) _ HY8.out Tryz.underlying45 rfl (by rw [info45, HSv1.out]) ?_)
  refine (HP2.out _ HB8.out).mono ?_
  rintro x w9 hq
  obtain ⟨p9, n9, c9, rfl, hb9, hy9⟩ := putR_any hq HE.out.2
  have HX9 := hid (HX8.out.below hb9)
  have HY9 := hid (HY8.out.below hb9)
  have HB9 := hid (HB8.out.trans (hb9.mono HB8.out.size))
  have HZ : Hid ((k1 = 0 → n8 = E1.length ∧ ∃ R, Byts w9 R p8 E1.length c8 (fun j => E1.getD j 0)) ∧ (k2 = 0 → n9 = E2.length ∧ ∃ R, Byts w9 R p9 E2.length c9 (fun j => E2.getD j 0))) := ⟨fun h => ⟨(HZ8.out h).1, _, (HZ8.out h).2.kept hb9.size fun b _ hl => hb9.block b hl⟩, fun h => ⟨(hy9 h).1, _, (hy9 h).2⟩⟩
  have HS9 := hid (HSm.out w9 HB9.out)
  clear hb9 hq hy9 HX8 HY8 HB8 HP2 HZ8 HE
  by_cases z1 : k1 = 0
  case neg =>
    have hne : ((k1 : Int) != 0) = true := by rw [bne_iff_ne]; omega
    clear z1 HZ HSm
    go_wp2_with (first | (refine wpList_load_row rfl 45 (.tmp 2) rfl w.heap.size rfl 45 cA (0, 0) _ HX9.out Tryz.underlying45 rfl (by rw [info45, HS1.out]) ?_) | (refine wpList_load_row rfl 45 (.tmp 3) rfl (w.heap.size + 1) rfl 45 cB (0, 0) _ HY9.out Tryz.underlying45 rfl (by rw [info45, HSv1.out]) ?_))
    refine HS9.out.mono ?_
    rintro x wa ⟨r, rfl, hr, hba⟩
    have HBa := hid (HB9.out.trans (hba.mono HB9.out.size))
    have hkk : r = true → k1 = k2 := fun h => (HAl.out.1 (hr.1 h)).1
    clear hr hba HS9
    cases r
    · clear hkk
      go_wp2
      go_ret
      exact ⟨rfl, HBa.out⟩
    · obtain rfl := hkk rfl
      clear hkk
      go_wp2
      go_ret
      exact ⟨rfl, HBa.out⟩
  by_cases z2 : k2 = 0
  case neg =>
    have hne : ((k2 : Int) != 0) = true := by rw [bne_iff_ne]; omega
    subst z1
    clear z2 HZ HSm
    go_wp2_with (first | (refine wpList_load_row rfl 45 (.tmp 2) rfl w.heap.size rfl 45 cA (0, 0) _ HX9.out Tryz.underlying45 rfl (by rw [info45, HS1.out]) ?_) | (refine wpList_load_row rfl 45 (.tmp 3) rfl (w.heap.size + 1) rfl 45 cB (0, 0) _ HY9.out Tryz.underlying45 rfl (by rw [info45, HSv1.out]) ?_))
    refine HS9.out.mono ?_
    rintro x wa ⟨r, rfl, hr, hba⟩
    have HBa := hid (HB9.out.trans (hba.mono HB9.out.size))
    have hkk : r = true → 0 = k2 := fun h => (HAl.out.1 (hr.1 h)).1
    clear hr hba HS9
    cases r
    · clear hkk
      go_wp2
      go_ret
      exact ⟨rfl, HBa.out⟩
    · have hk := hkk rfl
      subst hk
      clear hkk
      go_wp2
      go_ret
      exact ⟨rfl, HBa.out⟩
  subst z1 z2
  obtain ⟨⟨rfl, R1, hy1⟩, ⟨rfl, R2, hy2⟩⟩ := And.intro (HZ.out.1 rfl) (HZ.out.2 rfl)
  have HSs : Hid (∀ W, Below w9.heap.size w9 W → Calls Tryz.prog 14 #[.slice p8 E1.length c8, .slice p9 E2.length c9] W fun x w' => YesNo (E1 = E2) x W w') := fun W hW => ySame W (fun b => R1 b ∧ b < w9.heap.size) (fun b => R2 b ∧ b < w9.heap.size) p8 p9 c8 c9 E1 E2 ((hy1.mono fun b hb hl => ⟨hb, hl⟩).kept hW.size fun b hb _ => hW.block b hb.2) ((hy2.mono fun b hb hl => ⟨hb, hl⟩).kept hW.size fun b hb _ => hW.block b hb.2)
  have HSt : Hid (∀ W, Below w9.heap.size w9 W → Calls Tryz.prog 13 #[.agg cA, .agg cB] W fun x w' => YesNo (ThAlike t1 v1) x W w') := fun W hW => HSm.out W (HB9.out.trans (hW.mono HB9.out.size))
  have HPP : Hid (E1 = E2 ↔ ThAlike t1 v1) := ⟨fun h => HAl.out.2 rfl rfl h, fun h => (HAl.out.1 h).2⟩
  clear hy1 hy2 HZ HS9 HSm
  obtain ⟨n1, hn1⟩ : ∃ n, n = E1.length := ⟨_, rfl⟩
  obtain ⟨n2, hn2⟩ : ∃ n, n = E2.length := ⟨_, rfl⟩
  rw [← hn1, ← hn2] at HSs ⊢
  clear hn1 hn2
  go_wp2_with fail
  refine un_tail _ _ _ _ _ _ _ _ _ _ _ _ _ _ _ _ _ _ _ _ _ _ _ _ _ _ _ _ _ _ _ _ _ _ _ _ _ _ _ _ _ _ _ _ _ _ w9 w.heap.size (E1 = E2) (ThAlike t1 v1) p8 n1 c8 p9 n2 c9 cA cB _ _ _ _ _ _ _ _ HS1.out HSv1.out HX9.out HY9.out HPP.out HSs.out HSt.out _ ?_
  intro w' t51 t52 t53 t54 t55 t56 t57 hbw
  have HBb := hid (HB9.out.trans (hbw.mono HB9.out.size))
  clear hbw HSs HSt HPP
  go_wp2
  go_ret
  exact ⟨rfl, HBb.out⟩
end Go.Proofs.YtfonicphdejdlaaGreat

namespace Go.Proofs.YtfonicphdejdlaaGreat
open Go.ChangeShapes Go.WideShapes Go.ChangeAt Go.RowKit
set_option maxRecDepth 8000

theorem own : ownKnob Tryz.prog.godebug = none := by kernel_rfl
theorem laidOut : laidOutB Tryz.prog = true := by kernel_rfl
theorem cell_lt {w : World} {a : Addr} {v : Value} (h : w.cell? a = some v) : a.block < w.heap.size := by
  rcases Nat.lt_or_ge a.block w.heap.size with h1 | h1
  · exact h1
  · simp [World.cell?, Array.getElem?_eq_none h1] at h
theorem cellsV : Tryz.prog.cellsOf 24 = 4 := by kernel_rfl
theorem bytesV : Tryz.prog.bytesOf 24 = 56 := by kernel_rfl
theorem cellsVs : Tryz.prog.cellsOf 22 = 1 := by kernel_rfl
theorem cellsI3 : Tryz.prog.cellsOf 3 = 1 := by kernel_rfl
theorem cellsI2 : Tryz.prog.cellsOf 2 = 1 := by kernel_rfl
theorem cellsStr : Tryz.prog.cellsOf 9 = 1 := by kernel_rfl

theorem mem_weightsAll {H : Type} {P : Program} {e : TypeId} : ∀ {l : List (DataW H)} {d : DataW H} {n : Nat}, d ∈ l → n ∈ d.weights P e → n ∈ DataW.weightsAll P e l
  | [], _, _, h, _ => by cases h
  | x :: r, d, n, h, hn => by
    simp only [DataW.weightsAll, List.mem_append]
    rcases List.mem_cons.1 h with rfl | h
    · exact .inl hn
    · exact .inr (mem_weightsAll h hn)

theorem open_val {H : Type} {enc : TypeId × Value → H} {W : World} : ∀ (N fuel : Nat) (cs : List Value) (x : DataW H × List MemPlace), fuel ≤ N →
    DataW.trod enc Tryz.prog W 0 (fun _ => true) true fuel 24 cs = some x → (∀ n ∈ x.1.weights Tryz.prog 24, n ≤ reachBytes) → ∃ t : VT, cs = t.cells ∧ VT.In W (fun b => b < W.heap.size) t := by
  intro N
  induction N with
  | zero =>
    intro fuel cs x hf h
    obtain rfl : fuel = 0 := by omega
    simp [DataW.trod] at h
  | succ N ih =>
    intro fuel cs x hf h hw
    obtain ⟨xs, n, rfl, rfl, hlen, hxl, hfs⟩ := DataW.trod_struct Tryz.underlying24 h
    rw [cellsV] at hlen
    match xs, hxl with
    | [y0, y1, y2, y3], _ =>
    match cs, hlen with
    | [v0, v1, v2, v3], _ =>
    have g0 := hfs 0 _ rfl
    have g1 := hfs 1 _ rfl
    have g2 := hfs 2 _ rfl
    have g3 := hfs 3 _ rfl
    simp [cellsI3, cellsI2, cellsStr, cellsVs] at g0 g1 g2 g3
    obtain ⟨k, hk, _, wk⟩ := DataW.trod_int Tryz.underlying3 g0
    obtain ⟨i, hi, _, wi⟩ := DataW.trod_int Tryz.underlying2 g1
    obtain ⟨s, hs, hy2, _⟩ := DataW.trod_string Tryz.underlying9 g2
    have bk := bounds_i64 wk
    have bi := bounds_i64 wi
    simp at hk hi hs
    subst hk hi hs
    have hws : s.size ≤ 140737488355328 := by
      have hm := hw s.data.toList.length (by
        rw [hy2]
        simp [DataW.weights, DataW.weightsEach, Tryz.underlying24])
      unfold reachBytes at hm
      have e : s.data.toList.length = s.size := by simp
      omega
    have hwi : ∀ m ∈ y3.1.weights Tryz.prog 22, m ≤ reachBytes := fun m hm => hw m (by
      simp only [DataW.weights, Tryz.underlying24, List.map, DataW.weightsEach, List.mem_append]
      exact .inr (.inr (.inr (.inl hm))))
    rcases DataW.trod_slice Tryz.underlying22 g3 with ⟨hc, _⟩ | ⟨a, len, cap, elems, rest, m, hm, hc, hx, hb, hl, hcm, hel, hcell, hsp, _⟩
    · simp at hc
      subst hc
      refine ⟨.mk k i s 0 none 0 (fun _ => .nil), rfl, ⟨⟨bk.1, bk.2, bi.1, bi.2, hws, Nat.le_refl 0, by show 0 ≤ 140737488355328; omega, Nat.zero_le _, fun _ => ⟨rfl, rfl⟩⟩, fun h => absurd h (by omega), fun j hj => absurd hj (by omega)⟩⟩
    · simp at hc
      subst hc
      have hrest : rest.length = cap - len := (hsp rfl).1
      rw [hx] at hwi
      simp only [DataW.weights, Tryz.underlying22, List.mem_cons, List.mem_append, List.length_map] at hwi
      have hcb : cap * 56 ≤ reachBytes := by
        have := hwi _ (.inl rfl)
        rw [bytesV] at this
        rw [hel, hrest, show len + (cap - len) = cap by omega] at this
        exact this
      unfold reachBytes at hcb
      have each : ∀ j, j < len → ∃ t : VT, (∀ r, r < 4 → W.cell? (a.add (j * 4 + r)) = t.cells[r]?) ∧ VT.In W (fun b => b < W.heap.size) t := by
        intro j hj
        have h1 := hcell j hj
        have hje : j < elems.length := by omega
        rw [List.getElem?_eq_getElem hje, cellsV] at h1
        obtain ⟨cs', hcs, htr⟩ := Option.bind_eq_some_iff.1 h1
        obtain ⟨t, rfl, hin⟩ := ih m cs' elems[j] (by omega) htr (fun q hq => hwi q (.inr (.inl (mem_weightsAll (d := elems[j].1) (List.mem_map.2 ⟨elems[j], List.getElem_mem hje, rfl⟩) hq))))
        obtain ⟨_, hln, hcc⟩ := World.cells?_some hcs
        refine ⟨t, fun r hr => ?_, hin⟩
        have := hcc r (by omega)
        rw [Go.Deep.add_add] at this
        exact this
      have : Inhabited VT := ⟨.nil⟩
      obtain ⟨F, hF⟩ := Go.Deep.choose_lt each
      refine ⟨.mk k i s len (some a) cap F, rfl, ⟨⟨bk.1, bk.2, bi.1, bi.2, hws, hl, ?_, hcm, fun h => by cases h⟩, fun hp => ?_, fun j hj => (hF j hj).2⟩⟩
      · show len ≤ 140737488355328; omega
      · obtain ⟨b, o, spot⟩ := a
        have f0 := (hF 0 hp).1 0 (by omega)
        have hspot : spot = none := by simpa [Addr.add] using World.cell?_spot f0
        subst hspot
        have hbl : b < W.heap.size := by have := cell_lt f0; simpa [Addr.add] using this
        refine ⟨b, o, rfl, hbl, hbl, fun j hj => ?_⟩
        have f := (hF j hj).1
        have q0 := f 0 (by omega)
        have q1 := f 1 (by omega)
        have q2 := f 2 (by omega)
        have q3 := f 3 (by omega)
        rw [add_plain] at q0 q1 q2 q3
        exact ⟨q0, q1, q2, q3⟩
/-- WHAT A VALUE THAT CAME IN IS -/
theorem open_value {H : Type} {enc : TypeId × Value → H} {W : World} {v : Value} {d : DataW H} {p : List MemPlace}
    (hd : DataW.Trod enc Tryz.prog W 0 (fun _ => true) true 24 v d p) (hw : ∀ n ∈ d.weights Tryz.prog 24, n ≤ reachBytes) :
    ∃ t : VT, v = t.val ∧ VT.In W (fun b => b < W.heap.size) t := by
  obtain ⟨fuel, hf⟩ := hd
  obtain ⟨t, hc, hin⟩ := open_val fuel fuel _ _ (Nat.le_refl _) hf hw
  refine ⟨t, ?_, hin⟩
  cases v with
  | agg cs =>
    have h2 : cs.toList = t.cells := hc
    obtain ⟨l⟩ := cs
    simp only at h2
    rw [h2]; rfl
  | _ => simp [Value.cells, VT.cells] at hc
end Go.Proofs.YtfonicphdejdlaaGreat
