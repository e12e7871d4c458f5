import Derived.Test.YtldkepokcbjlpaaPack35
import Derived.Test.YtldkepokcbjlpaaPack6
import Derived.Deep.DeepCutAuto
namespace Go.Proofs.Ytldkepokcbjlpaa
open Go.RowKit Go.Conc
set_option maxRecDepth 8000
theorem kindCs : ∃ i, Kind 33 122 i (.agg #[.string ⟨#[]⟩, .slice none 0 0]) 2 40 := by
  obtain ⟨i0, hi, hz0, hz1, hz2⟩ := info_parts (show (Try.prog.info? 122).map (fun i => (i.zero, i.size, i.bytes)) = some (some (.agg #[.string ⟨#[]⟩, .slice none 0 0]), 2, 40) by kernel_rfl)
  exact ⟨i0, Try.underlying33, hi, hz0, hz1, hz2, rfl, by decide⟩
/-- a cell with a key and other values -/
def VT.with (t : VT) (u : LT VT) : VT := .mk t.kind t.int t.text u.n u.p u.c u.item
theorem VT.with_in {w : World} {S R : Nat → Prop} {w0 : World} {t : VT} {u : LT VT} (ht : VT.In w0 S t) (hu : LT.In elVal w R u) : VT.In w R (t.with u) := by
  have hf := ht.fit
  refine ⟨⟨hf.k0, hf.k1, hf.i0, hf.i1, hf.s1, hu.nc, hu.nn, hu.cc, hu.nil⟩, fun hn => ?_, fun j hj => hu.each j hj⟩
  obtain ⟨b, o, e, hS, hl, hat⟩ := hu.at_ hn
  refine ⟨b, o, e, hS, hl, fun j hj => ⟨?_, ?_, ?_, ?_⟩⟩
  · exact hat j hj 0 _ rfl
  · exact hat j hj 1 _ rfl
  · exact hat j hj 2 _ rfl
  · exact hat j hj 3 _ rfl
theorem VT.with_alike {w0 : World} {S : Nat → Prop} {t : VT} {u : LT VT} (ht : VT.In w0 S t) (hn : u.n = t.n) (ha : ∀ j, j < t.n → VT.Alike (t.item j) (u.item j)) : VT.Alike t (t.with u) := by
  cases t with
  | nil => exact ht.elim
  | mk k i s n p c f => exact ⟨rfl, rfl, rfl, hn, ha⟩
theorem VT.In.asLT {w : World} {S : Nat → Prop} {t : VT} (h : VT.In w S t) : LT.In elVal w S ⟨t.p, t.n, t.c, t.item⟩ := by
  obtain ⟨k, i, s, n, p, c, f, rfl⟩ := h.mk_
  exact VT.toLT h
set_option maxHeartbeats 8000000 in
theorem rs8 (num : Int) (l : LT VT) (w : World) (S : Nat → Prop) (hin : LT.In elCell w S l) (hn1 : l.n ≤ 10000) (ht : ∀ j, j < l.n → (l.item j).total ≤ 10000) :
    Calls Try.prog 60 #[.agg #[.int .i64 num, .slice l.p l.n l.c]] w fun e w' => ∃ u : LT VT, e = .returned (.agg #[.int .i64 num, .slice u.p u.n u.c]) ∧ LAlk VT.Alike l u ∧ LT.In elCell w' (fun b => w.heap.size ≤ b) u ∧ Below w.heap.size w w' := by
  obtain ⟨i1, Kc⟩ := kindCs
  have HKc := hid Kc
  have HI := hid hin
  have HS := hid ht
  have HT0 := TwoK.start w #[.int .i64 num, .slice l.p l.n l.c] #[.int .i64 0, .slice none 0 0] 35
  obtain ⟨W0, hW0⟩ : ∃ V, V = (w.alloc (.cells #[.int .i64 num, .slice l.p l.n l.c] 35)).alloc (.cells #[.int .i64 0, .slice none 0 0] 35) := ⟨_, rfl⟩
  rw [← hW0] at HT0
  have hs0 : W0.heap.size = w.heap.size + 2 := by rw [hW0]; simp
  have hb0 : Below W0.heap.size W0 (W0.alloc (.cells #[.int .i64 num, .slice none 0 0] 35)) := (Below.refl _ _).alloc (Nat.le_refl _) _
  have HT := hid (HT0.below hb0)
  have hO0 := Box.new W0 #[.int .i64 num, .slice none 0 0] 35
  rw [hs0] at hO0
  have HO0 := hid hO0
  rw [hW0] at HT HO0
  clear hin ht Kc HT0 hO0 hb0 hs0 hW0
  go_enter Try.func60, Try.ntmps60
  go_wp2_with fail
  go_loopw [4] (fun x wr => ∃ (k : Nat) (g : Nat → VT) (pv : Option Addr) (cv : Nat), k ≤ l.n ∧ x = .int .i64 (k : Int) ∧ TwoK w wr #[.int .i64 num, .slice l.p l.n l.c] #[.int .i64 0, .slice none 0 0] 35 ∧ Box wr (w.heap.size + 2) #[.int .i64 num, .slice pv k cv] 35 ∧ OwnL elCell (w.heap.size + 3) wr (.slice pv k cv) k g ∧ (∀ q, q < k → VT.Alike (l.item q) (g q))) (fun x _ => l.n - (intOf x).toNat)
  case atStart => exact ⟨0, l.item, none, 0, Nat.zero_le _, rfl, HT.out, HO0.out, ⟨World.ownsRow_nil _ _ _ _, fun j hj => absurd hj (by omega)⟩, fun q hq => absurd hq (by omega)⟩
  case round =>
    obtain ⟨k, g, pv, cv, hk, rfl, hT, hO, hL, hal⟩ := hrel
    have HTr := hid hT
    have HOr := hid hO
    have HL := hid hL
    have HA := hid hal
    have ra := hT.ba.lt
    have rb := hT.bb.lt
    have ro := hO.lt
    have d1 := hT.ba.cell 1
    have o0 := hO.cell 0
    have o1 := hO.cell 1
    simp at d1 o0 o1
    clear hT hO hL hal HT HO0
    by_cases hlt : k < l.n
    · have hlt' : (k : Int) < (l.n : Int) := by omega
      obtain ⟨bb, o, hp, hSb, hbb, hat⟩ := HI.out.at_ (by omega)
      rw [hp] at d1
      have r0 : wr.cell? ⟨bb, o + k * 2, none⟩ = some (.string (l.item k).text) := (World.cell?_of_block (a := ⟨bb, o + k * 2, none⟩) (HTr.out.bel.block bb hbb)).trans (hat k hlt 0 _ rfl)
      have r1 : wr.cell? ⟨bb, o + k * 2 + 1, none⟩ = some (.slice (l.item k).p (l.item k).n (l.item k).c) := (World.cell?_of_block (a := ⟨bb, o + k * 2 + 1, none⟩) (HTr.out.bel.block bb hbb)).trans (hat k hlt 1 _ rfl)
      have HIk : Hid (VT.In w S (l.item k)) := HI.out.each k hlt
      have hkt := HS.out k hlt
      have hbr : bb < wr.heap.size := by have := HTr.out.bel.size; omega
      have HC := hid (rvs8 ⟨(l.item k).p, (l.item k).n, (l.item k).c, (l.item k).item⟩ wr (fun b => S b ∧ b < w.heap.size) ((HIk.out.asLT.mono fun b hb hl => ⟨hb, hl⟩).kept HTr.out.bel.size (fun b hb _ => HTr.out.bel.block b hb.2)) (by show (l.item k).n ≤ 10000; rw [VT.total_upto] at hkt; omega) (fun j hj => Nat.le_trans (VT.item_total (l.item k) hj) hkt))
      clear hat hp hkt
      go_wp2_with fail
      refine HC.out.mono ?_
      rintro e w2 ⟨u, rfl, hal2, hin2, hb2⟩
      have HT2 := hid (HTr.out.below hb2)
      have HO2 := hid (HOr.out.below hb2)
      have HL2 := hid (HL.out.keep hb2.size (fun j _ hl => hb2.block j hl))
      have HU := hid (And.intro hal2 (And.intro hin2 hb2))
      have d1 := (World.cell?_of_block (a := ⟨w.heap.size, 1, none⟩) (hb2.block _ ra)).trans d1
      have o1 := (World.cell?_of_block (a := ⟨w.heap.size + 2, 1, none⟩) (hb2.block _ ro)).trans o1
      have r0 := (World.cell?_of_block (a := ⟨bb, o + k * 2, none⟩) (hb2.block _ hbr)).trans r0
      have ra := HT2.out.ba.lt
      have rb := HT2.out.bb.lt
      have ro := HO2.out.lt
      have hbr := Nat.lt_of_lt_of_le hbr hb2.size
      have hs2 : w.heap.size + 3 ≤ w2.heap.size := by omega
      have hsr : wr.heap.size ≤ w2.heap.size := hb2.size
      clear hal2 hin2 hb2 HC r1 o0
      go_wp2_with fail
      refine wp_region_calmE 30 (fun wx => Below w2.heap.size w2 wx) [(0, true), (1, false), (2, true), (3, false), (4, true), (5, true), (6, true), (7, false), (8, true), (9, true)] (.one 10 true [] (.one 11 false [(12, true)] (.one 13 false [] .done))) (by kernel_rfl) (by kernel_rfl) (Below.refl _ _).drew ?_
      refine wpPre_e rfl rfl (fun K1 hK1 => ?_)
      apply Exists.intro
      refine And.intro (fun wx hx => ?_) ?_
      · go_simp
        try rfl
      go_simp
      refine hK1 _ ?_
      clear hK1 K1
      refine wpPre_e rfl rfl (fun K1 hK1 => ?_)
      apply Exists.intro
      refine And.intro (fun wx hx => ?_) ?_
      · have e0 := below_fact hx rfl o1
        have e1 := below_fact hx rfl d1
        have e2 := below_fact hx rfl r0
        go_simp
        try rfl
      go_simp
      refine hK1 _ ?_
      clear hK1 K1
      refine wpPre_e rfl rfl (fun K1 hK1 => ?_)
      apply Exists.intro
      refine And.intro (fun wx hx => ?_) ?_
      · go_simp
        try rfl
      go_simp
      refine hK1 _ ?_
      clear hK1 K1
      refine wpPre_e rfl rfl (fun K1 hK1 => ?_)
      apply Exists.intro
      refine And.intro (fun wx hx => ?_) ?_
      · have e0 := below_fact hx rfl o1
        have e1 := below_fact hx rfl d1
        have e2 := below_fact hx rfl r0
        go_simp
        try rfl
      go_simp
      refine hK1 _ ?_
      clear hK1 K1
      refine wpPre_e rfl rfl (fun K1 hK1 => ?_)
      apply Exists.intro
      refine And.intro (fun wx hx => ?_) ?_
      · go_simp
        try rfl
      go_simp
      refine hK1 _ ?_
      clear hK1 K1
      refine wpPre_e rfl rfl (fun K1 hK1 => ?_)
      apply Exists.intro
      refine And.intro (fun wx hx => ?_) ?_
      · go_simp
        try rfl
      go_simp
      refine hK1 _ ?_
      clear hK1 K1
      refine wpPre_e rfl rfl (fun K1 hK1 => ?_)
      apply Exists.intro
      refine And.intro (fun wx hx => ?_) ?_
      · go_simp
        try rfl
      go_simp
      refine hK1 _ ?_
      clear hK1 K1
      refine wpPre_e rfl rfl (fun K1 hK1 => ?_)
      apply Exists.intro
      refine And.intro (fun wx hx => ?_) ?_
      · have e0 := below_fact hx rfl o1
        have e1 := below_fact hx rfl d1
        have e2 := below_fact hx rfl r0
        go_simp
        try rfl
      go_simp
      refine hK1 _ ?_
      clear hK1 K1
      refine wpPre_e rfl rfl (fun K1 hK1 => ?_)
      apply Exists.intro
      refine And.intro (fun wx hx => ?_) ?_
      · go_simp
        try rfl
      go_simp
      refine hK1 _ ?_
      clear hK1 K1
      refine wpPre_e rfl rfl (fun K1 hK1 => ?_)
      apply Exists.intro
      refine And.intro (fun wx hx => ?_) ?_
      · go_simp
        try rfl
      go_simp
      refine hK1 _ ?_
      clear hK1 K1
      refine wpPre_nil ?_
      refine wpTr_e rfl (fun K1 hK1 => ?_)
      go_simp
      have hb5 : Below w2.heap.size w2 (w2.alloc (.cells #[.string (l.item k).text, .slice u.p u.n u.c] 122)).drew := ((Below.refl w2.heap.size w2).alloc (Nat.le_refl _) _).drew
      refine hK1 _ _ (fun _ => hb5) ?_
      clear hK1 K1
      refine wpPre_nil ?_
      refine wpTr_e rfl (fun K1 hK1 => ?_)
      have hL5 := HL2.out.keep hb5.size (fun j _ hl => hb5.block j hl)
      have hnews : ∀ j u', (elCell.cells ((l.item k).with u))[j]? = some u' → (w2.alloc (.cells #[.string (l.item k).text, .slice u.p u.n u.c] 122)).drew.cell? ((⟨w2.heap.size, 0, none⟩ : Addr).add j) = some u' := fun j u' hu => by
        rw [Go.WideShapes.add_plain, ((Box.new w2 #[.string (l.item k).text, .slice u.p u.n u.c] 122).below (Below.refl _ _).drew).cell]
        rw [show 0 + j = j by omega]
        simpa [elCell, VT.two, VT.with, VT.text, VT.p, VT.n, VT.c] using hu
      have hu5 : elCell.In (w2.alloc (.cells #[.string (l.item k).text, .slice u.p u.n u.c] 122)).drew (fun b => w.heap.size + 3 ≤ b ∧ (Value.slice pv k cv).ownBlock ≠ some b) ((l.item k).with u) := ((VT.with_in HIk.out HU.out.2.1).below hb5).mono fun b hb _ => ⟨by have := HTr.out.bb.lt; have := HOr.out.lt; omega, fun e => by have := (HL.out.own.lt b e).2; omega⟩
      have HX5 := hid (And.intro hL5 (And.intro hnews (And.intro hu5 hb5)))
      clear hL5 hnews hu5
      refine step_app rfl (.tmp 24) (.tmp 33) 33 122 i1 _ 2 40 HKc.out rfl (w.heap.size + 3) (.slice pv k cv) k _ rfl HX5.out.1.own ⟨w2.heap.size, 0, none⟩ 1 1 (elCell.cells ((l.item k).with u)) rfl rfl HX5.out.2.1 (elCell.one _) (by omega) (by omega) (by simp; omega) ?_
      intro v6 w6 ho6 hg6 hn6
      have hL6 := HX5.out.1.push HX5.out.2.2.1 ho6 hg6 hn6
      obtain ⟨p6, c6, rfl⟩ := ownsRow_slice ho6
      have hr6 : ∀ j, (Value.slice pv k cv).ownBlock = some j → w.heap.size + 3 ≤ j := fun j hj => (HL2.out.own.lt j hj).1
      have hT6 := (HT2.out.below HX5.out.2.2.2).grown hg6 (fun j hj => by have := hr6 j hj; omega)
      have hO5 := HO2.out.below HX5.out.2.2.2
      have hO6 := hO5.kept (hg6.block _ hO5.lt (fun e => by have := hr6 _ e.symm; omega))
      have y1 := hO6.cell 1
      have f1 := hO6.frozen 1
      have ol6 := hO6.lt
      simp at y1
      have HX6 := hid (And.intro hT6 (And.intro hO6 hL6))
      clear ho6 hg6 hn6 hT6 hO5 hO6 hL6 HX5 hb5 hr6
      go_simp
      refine hK1 _ _ (fun h => by cases h) ?_
      clear hK1 K1
      refine wpPre_e rfl rfl (fun K1 hK1 => ?_)
      apply Exists.intro
      refine And.intro (fun wx hx => ?_) ?_
      · go_simp
        try rfl
      go_simp
      refine hK1 _ ?_
      clear hK1 K1
      refine wpPre_nil ?_
      refine wpTr_e rfl (fun K1 hK1 => ?_)
      go_simp
      refine hK1 _ _ (fun h => by cases h) ?_
      clear hK1 K1
      refine wpPre_nil ?_
      refine wpTr_done ?_
      have hbt : But (fun y => y = w.heap.size + 2) w6 (w6.setCell ⟨w.heap.size + 2, 1, none⟩ (.slice p6 (k + 1) c6)) := (But.one w6 _).setAt 1 _
      have HO7 : Hid (Box (w6.setCell ⟨w.heap.size + 2, 1, none⟩ (.slice p6 (k + 1) c6)) (w.heap.size + 2) #[.int .i64 num, .slice p6 (k + 1) c6] 35) := by
        have h := HX6.out.2.1.set 1 (.slice p6 (k + 1) c6)
        unfold Hid
        simpa using h
      have HL7 := hid (HX6.out.2.2.keep hbt.size (fun j hj hl => hbt.block j hl (by omega)))
      have HT7 : Hid (TwoK w (w6.setCell ⟨w.heap.size + 2, 1, none⟩ (.slice p6 (k + 1) c6)) #[.int .i64 num, .slice l.p l.n l.c] #[.int .i64 0, .slice none 0 0] 35) := ⟨HX6.out.1.ba.kept (hbt.block _ HX6.out.1.ba.lt (by omega)), HX6.out.1.bb.kept (hbt.block _ HX6.out.1.bb.lt (by omega)), HX6.out.1.bel.trans (hbt.below HX6.out.1.bel.size (fun x hx e => by omega))⟩
      have HA7 : Hid (∀ q, q < k + 1 → VT.Alike (l.item q) (if q < k then g q else (l.item k).with u)) := by
        intro q hq
        by_cases hqk : q < k
        · rw [if_pos hqk]; exact HA.out q hqk
        · rw [if_neg hqk]
          obtain rfl : q = k := by omega
          exact VT.with_alike HIk.out HU.out.1.n HU.out.1.item
      clear hbt
      go_wp2
      go_roundw
      case rel => exact ⟨k + 1, _, p6, c6, by omega, by go_num, HT7.out, HO7.out, HL7.out, HA7.out⟩
      case measure => simp [intOf]; omega
    · obtain rfl : k = l.n := by omega
      have hlt' : ¬ (l.n : Int) < (l.n : Int) := by omega
      obtain ⟨p3, c3, hv, hL⟩ := HL.out.in_ (by omega)
      simp only [Value.slice.injEq, true_and] at hv
      obtain ⟨rfl, rfl⟩ := hv
      have HLI := hid hL
      have z0 := HTr.out.bb.cell 0
      have z1 := HTr.out.bb.cell 1
      have g0 := HTr.out.bb.frozen 0
      have g1 := HTr.out.bb.frozen 1
      simp at z0 z1
      clear hL
      go_wp2
      have hbt : But (fun y => y = w.heap.size + 1) wr ((wr.setCell ⟨w.heap.size + 1, 0, none⟩ (.int .i64 num)).setCell ⟨w.heap.size + 1, 1, none⟩ (.slice pv l.n cv)) := ((But.one wr _).setAt 0 _).setAt 1 _
      refine bodyPost_ret (v := .agg #[.int .i64 num, .slice pv l.n cv]) (by simp [results, Try.results60, go_sem, z0, z1]) rfl ⟨⟨pv, l.n, cv, g⟩, rfl, ⟨rfl, HA.out⟩, ?_, HTr.out.bel.trans (hbt.below HTr.out.bel.size (fun x hx e => by omega))⟩
      exact (HLI.out.kept hbt.size (fun b hb hl => hbt.block b hl (by omega))).mono fun b hb _ => by omega
end Go.Proofs.Ytldkepokcbjlpaa

namespace Go.Proofs.Ytldkepokcbjlpaa
open Go.RowKit Go.Conc
set_option maxRecDepth 8000
structure PaO (w V : World) (t : PtT) (ob : Nat) (cl : LT VT) (pd : LT RT) (lg : Value) (S : Nat → Prop) : Prop where
  tw : TwoK w V #[.int .i64 t.num, .slice t.cl.p t.cl.n t.cl.c, .slice t.lg.p t.lg.n t.lg.c, .slice t.pd.p t.pd.n t.pd.c] #[.int .i64 0, .slice none 0 0, .slice none 0 0, .slice none 0 0] 39
  ob0 : w.heap.size + 2 ≤ ob
  box : Box V ob #[.int .i64 t.num, .slice cl.p cl.n cl.c, lg, .slice pd.p pd.n pd.c] 39
  ca : LAlk VT.Alike t.cl cl
  pa : LAlk RT.Alike t.pd pd
  ci : LT.In elCell V S cl
  pi : LT.In elRec V S pd
  hS : ∀ b, S b → w.heap.size + 2 ≤ b ∧ b ≠ ob
theorem PaO.below {w V V' : World} {t : PtT} {ob : Nat} {cl : LT VT} {pd : LT RT} {lg : Value} {S : Nat → Prop} (h : PaO w V t ob cl pd lg S) (hb : Below V.heap.size V V') : PaO w V' t ob cl pd lg S := ⟨h.tw.below hb, h.ob0, h.box.below hb, h.ca, h.pa, h.ci.below hb, h.pi.below hb, h.hS⟩
theorem PaO.put {w V V' : World} {t : PtT} {ob : Nat} {cl : LT VT} {pd : LT RT} {a0 a1 a2 a3 : Value} (tw : TwoK w V #[.int .i64 t.num, .slice t.cl.p t.cl.n t.cl.c, .slice t.lg.p t.lg.n t.lg.c, .slice t.pd.p t.pd.n t.pd.c] #[.int .i64 0, .slice none 0 0, .slice none 0 0, .slice none 0 0] 39) (o0 : w.heap.size + 2 ≤ ob) (bx : Box V ob #[a0, a1, a2, a3] 39) (ca : LAlk VT.Alike t.cl cl) (pa : LAlk RT.Alike t.pd pd) (ci : LT.In elCell V (fun b => w.heap.size + 2 ≤ b ∧ b ≠ ob) cl) (pi : LT.In elRec V (fun b => w.heap.size + 2 ≤ b ∧ b ≠ ob) pd) (hV : V' = (((V.setCell ⟨ob, 0, none⟩ (.int .i64 t.num)).setCell ⟨ob, 1, none⟩ (.slice cl.p cl.n cl.c)).setCell ⟨ob, 2, none⟩ (.slice none 0 0)).setCell ⟨ob, 3, none⟩ (.slice pd.p pd.n pd.c)) : PaO w V' t ob cl pd (.slice none 0 0) (fun b => w.heap.size + 2 ≤ b ∧ b ≠ ob) := by
  have hbt : But (fun y => y = ob) V V' := by rw [hV]; exact ((((But.one V ob).setAt 0 _).setAt 1 _).setAt 2 _).setAt 3 _
  refine ⟨⟨tw.ba.kept (hbt.block _ tw.ba.lt (by omega)), tw.bb.kept (hbt.block _ tw.bb.lt (by omega)), tw.bel.trans (hbt.below tw.bel.size (fun x hx e => by omega))⟩, o0, ?_, ca, pa, ci.kept hbt.size (fun b hb hl => hbt.block b hl hb.2), pi.kept hbt.size (fun b hb hl => hbt.block b hl hb.2), fun _ h => h⟩
  have h := (((bx.set 0 (.int .i64 t.num)).set 1 (.slice cl.p cl.n cl.c)).set 2 (.slice none 0 0)).set 3 (.slice pd.p pd.n pd.c)
  rw [hV]
  exact h
set_option maxHeartbeats 16000000 in
theorem rpart (t : PtT) (w : World) (S : Nat → Prop) (hin : PtIn w S t) (hs : PtSz t) :
    Calls Try.prog 42 #[.agg #[.int .i64 t.num, .slice t.cl.p t.cl.n t.cl.c, .slice t.lg.p t.lg.n t.lg.c, .slice t.pd.p t.pd.n t.pd.c]] w fun e w' => FpP t w e w' := by
  have HL0 := hid hin.lg
  have HSz := hid hs
  have hlgn := hs.l0
  obtain ⟨W, hW⟩ : ∃ V, V = (w.alloc (.cells #[.int .i64 t.num, .slice t.cl.p t.cl.n t.cl.c, .slice t.lg.p t.lg.n t.lg.c, .slice t.pd.p t.pd.n t.pd.c] 39)).alloc (.cells #[.int .i64 0, .slice none 0 0, .slice none 0 0, .slice none 0 0] 39) := ⟨_, rfl⟩
  have HT0 := TwoK.start w #[.int .i64 t.num, .slice t.cl.p t.cl.n t.cl.c, .slice t.lg.p t.lg.n t.lg.c, .slice t.pd.p t.pd.n t.pd.c] #[.int .i64 0, .slice none 0 0, .slice none 0 0, .slice none 0 0] 39
  rw [← hW] at HT0
  have hsW : W.heap.size = w.heap.size + 2 := by rw [hW]; simp
  have hBW := HT0.bel
  have HSt : Hid (∀ V, Below W.heap.size W V → Calls Try.prog 60 #[.agg #[.int .i64 t.num, .slice t.cl.p t.cl.n t.cl.c]] V fun e w' => ∃ u : LT VT, e = .returned (.agg #[.int .i64 t.num, .slice u.p u.n u.c]) ∧ LAlk VT.Alike t.cl u ∧ LT.In elCell w' (fun b => V.heap.size ≤ b) u ∧ Below V.heap.size V w') := fun V hV =>
    rs8 t.num t.cl V (fun b => S b ∧ b < w.heap.size) ((hin.cl.mono fun b hb hl => ⟨hb, hl⟩).kept (Nat.le_trans hBW.size hV.size) (fun b hb _ => (hV.block b (by omega)).trans (hBW.block b hb.2))) hs.c0 hs.c1
  have HRc : Hid (∀ V, Below W.heap.size W V → Calls Try.prog 61 #[.slice t.pd.p t.pd.n t.pd.c] V fun e w' => ∃ u : LT RT, e = .returned (.slice u.p u.n u.c) ∧ LAlk RT.Alike t.pd u ∧ LT.In elRec w' (fun b => V.heap.size ≤ b) u ∧ Below V.heap.size V w') := fun V hV =>
    rrs5 t.pd V (fun b => S b ∧ b < w.heap.size) ((hin.pd.mono fun b hb hl => ⟨hb, hl⟩).kept (Nat.le_trans hBW.size hV.size) (fun b hb _ => (hV.block b (by omega)).trans (hBW.block b hb.2))) hs.p0 hs.p1
  have HRl : Hid (∀ V k, k < t.lg.n → Below w.heap.size w V → Calls Try.prog 61 #[.slice (t.lg.item k).p (t.lg.item k).n (t.lg.item k).c] V fun e w' => ∃ u : LT RT, e = .returned (.slice u.p u.n u.c) ∧ LAlk RT.Alike (t.lg.item k) u ∧ LT.In elRec w' (fun b => V.heap.size ≤ b) u ∧ Below V.heap.size V w') := fun V k hk hV =>
    rrs5 (t.lg.item k) V (fun b => S b ∧ b < w.heap.size) ((LT.In.mono (hin.lg.each k hk) fun b hb hl => ⟨hb, hl⟩).kept hV.size (fun b hb _ => hV.block b hb.2)) (hs.l1 k hk) (hs.l2 k hk)
  obtain ⟨i1, Kc⟩ := kindLL
  have HKc := hid Kc
  have HT := hid HT0
  have HW := hid hW
  have HsW := hid hsW
  have x0 := HT0.ba.cell 0
  have x1 := HT0.ba.cell 1
  have x3 := HT0.ba.cell 3
  have xl := HT0.ba.lt
  have zl := HT0.bb.lt
  simp at x0 x1 x3
  clear hin hs hW HT0 hBW Kc hsW
  go_enter Try.func42, Try.ntmps42
  go_upto_region 1 with fail
  rw [← HW.out]
  go_cut [3] (fun s3 wx => ∃ ob cl pd, s3 = .pointer (some ⟨ob, 0, none⟩) ∧ PaO w wx t ob cl pd (.slice none 0 0) (fun b => w.heap.size + 2 ≤ b ∧ b ≠ ob))
  case first =>
    refine wp_region_calmE 30 (fun wx => Below W.heap.size W wx) [(0, true), (1, false), (3, true), (4, false)] (.two 2 true [] (.two 5 true [(6, true)] (.one 7 true [] (.one 8 false [] .done)) 7 true [] (.one 5 true [(6, true)] (.one 8 false [] .done))) 7 true [] (.one 2 true [] (.one 5 true [(6, true)] (.one 8 false [] .done)))) (by kernel_rfl) (by kernel_rfl) (Below.refl _ _).drew ?_
    refine wpPre_e rfl rfl (fun K1 hK1 => ?_)
    apply Exists.intro
    refine And.intro (fun wx hx => ?_) ?_
    · go_simp
      try rfl
    go_simp
    refine hK1 _ ?_
    clear hK1 K1
    refine wpPre_e rfl rfl (fun K1 hK1 => ?_)
    apply Exists.intro
    refine And.intro (fun wx hx => ?_) ?_
    · have e0 := below_fact hx rfl x0
      have e1 := below_fact hx rfl x1
      have e2 := below_fact hx rfl x3
      go_simp
      try rfl
    go_simp
    refine hK1 _ ?_
    clear hK1 K1
    refine wpPre_e rfl rfl (fun K1 hK1 => ?_)
    apply Exists.intro
    refine And.intro (fun wx hx => ?_) ?_
    · go_simp
      try rfl
    go_simp
    refine hK1 _ ?_
    clear hK1 K1
    refine wpPre_e rfl rfl (fun K1 hK1 => ?_)
    apply Exists.intro
    refine And.intro (fun wx hx => ?_) ?_
    · have e0 := below_fact hx rfl x0
      have e1 := below_fact hx rfl x1
      have e2 := below_fact hx rfl x3
      go_simp
      try rfl
    go_simp
    refine hK1 _ ?_
    clear hK1 K1
    refine wpPre_nil ?_
    refine And.intro ?_ ?_
    · refine wpTr_op rfl (fun K1 hK1 => ?_)
      refine step_call rfl 60 #[.tmp 7] _ rfl Try.f60 Try.func60 (by kernel_rfl) rfl #[.agg #[.int .i64 t.num, .slice t.cl.p t.cl.n t.cl.c]] rfl _ (HSt.out _ (Below.refl W.heap.size W).drew) (fun e va h => ?_)
      obtain ⟨cl, rfl, hca, hci, hbc⟩ := h
      refine ⟨_, rfl, ?_⟩
      have bva : Below W.heap.size W va := Below.trans (Below.refl W.heap.size W).drew (hbc.mono (Below.size (Below.refl W.heap.size W).drew))
      go_simp
      refine hK1 _ _ (fun _ => bva) ?_
      clear hK1 K1
      refine wpPre_nil ?_
      refine And.intro ?_ ?_
      · refine wpTr_op rfl (fun K1 hK1 => ?_)
        refine step_call rfl 61 #[.tmp 10] _ rfl Try.f61 Try.func61 (by kernel_rfl) rfl #[.slice t.pd.p t.pd.n t.pd.c] rfl _ (HRc.out _ bva) (fun e vb h => ?_)
        obtain ⟨pd, rfl, hpa, hpi, hbp⟩ := h
        refine ⟨_, rfl, ?_⟩
        have bvb : Below W.heap.size W vb := Below.trans bva (hbp.mono (Below.size bva))
        go_simp
        refine hK1 _ _ (fun _ => bvb) ?_
        clear hK1 K1
        refine wpPre_e rfl rfl (fun K1 hK1 => ?_)
        apply Exists.intro
        refine And.intro (fun wx hx => ?_) ?_
        · go_simp
          try rfl
        go_simp
        refine hK1 _ ?_
        clear hK1 K1
        refine wpPre_nil ?_
        refine wpTr_e rfl (fun K1 hK1 => ?_)
        go_simp
        have bal : Below W.heap.size W (vb.alloc (.cells #[.int .i64 0, .slice none 0 0, .slice none 0 0, .slice none 0 0] 39)) := Below.alloc bvb (Below.size bvb) _
        refine hK1 _ _ (fun _ => bal) ?_
        clear hK1 K1
        refine wpPre_nil ?_
        refine wpTr_e rfl (fun K1 hK1 => ?_)
        go_simp
        refine hK1 _ _ (fun h => by cases h) ?_
        clear hK1 K1
        refine wpPre_nil ?_
        refine wpTr_done ?_
        go_wp2_with fail
        go_meet
        have hal : Below vb.heap.size vb (vb.alloc (.cells #[.int .i64 t.num, .slice cl.p cl.n cl.c, .slice none 0 0, .slice pd.p pd.n pd.c] 39)) := (Below.refl _ _).alloc (Nat.le_refl _) _
        have hz1 := bva.size
        have hz2 := bvb.size
        have hz3 := HsW.out
        exact ⟨vb.heap.size, cl, pd, rfl, (HT.out.below bvb).below hal, by omega, Box.new _ _ _, hca, hpa, ((hci.below hbp).mono (S' := fun b => w.heap.size + 2 ≤ b ∧ b ≠ vb.heap.size) (fun b hb hl => ⟨by have hb' : W.heap.size ≤ b := hb; omega, by omega⟩)).below hal, (hpi.mono (S' := fun b => w.heap.size + 2 ≤ b ∧ b ≠ vb.heap.size) (fun b hb hl => ⟨by omega, by omega⟩)).below hal, fun _ h => h⟩
      · refine wpTr_op rfl (fun K1 hK1 => ?_)
        go_simp
        have bal : Below W.heap.size W (va.alloc (.cells #[.int .i64 0, .slice none 0 0, .slice none 0 0, .slice none 0 0] 39)) := Below.alloc bva (Below.size bva) _
        refine hK1 _ _ (fun _ => bal) ?_
        clear hK1 K1
        refine wpPre_nil ?_
        refine wpTr_e rfl (fun K1 hK1 => ?_)
        refine step_call rfl 61 #[.tmp 10] _ rfl Try.f61 Try.func61 (by kernel_rfl) rfl #[.slice t.pd.p t.pd.n t.pd.c] rfl _ (HRc.out _ bal) (fun e vb h => ?_)
        obtain ⟨pd, rfl, hpa, hpi, hbp⟩ := h
        refine ⟨_, rfl, ?_⟩
        have bvb : Below W.heap.size W vb := Below.trans bal (hbp.mono (Below.size bal))
        go_simp
        refine hK1 _ _ (fun _ => bvb) ?_
        clear hK1 K1
        refine wpPre_e rfl rfl (fun K1 hK1 => ?_)
        apply Exists.intro
        refine And.intro (fun wx hx => ?_) ?_
        · go_simp
          try rfl
        go_simp
        refine hK1 _ ?_
        clear hK1 K1
        refine wpPre_nil ?_
        have hob := (Box.new va #[.int .i64 0, .slice none 0 0, .slice none 0 0, .slice none 0 0] 39).below hbp
        have k0 := hob.cell 0
        have g0 := hob.frozen 0
        have k1 := hob.cell 1
        have g1 := hob.frozen 1
        have k2 := hob.cell 2
        have g2 := hob.frozen 2
        have k3 := hob.cell 3
        have g3 := hob.frozen 3
        have obl := hob.lt
        simp at k0 k1 k2 k3
        refine wpTr_e rfl (fun K1 hK1 => ?_)
        go_simp
        refine hK1 _ _ (fun h => by cases h) ?_
        clear hK1 K1
        refine wpPre_nil ?_
        refine wpTr_done ?_
        go_wp2_with fail
        go_meet
        have hz1 := bva.size
        have hz2 := hbp.size
        simp at hz2
        have hz3 := HsW.out
        exact ⟨va.heap.size, cl, pd, rfl, PaO.put (HT.out.below bvb) (by omega) hob hca hpa (((hci.mono (S' := fun b => w.heap.size + 2 ≤ b ∧ b ≠ va.heap.size) (fun b hb hl => ⟨by have hb' : W.heap.size ≤ b := hb; omega, by omega⟩)).below ((Below.refl va.heap.size va).alloc (Nat.le_refl _) _)).below hbp) (hpi.mono (fun b hb hl => by simp at hb; exact ⟨by omega, by omega⟩)) rfl⟩
    · refine wpTr_op rfl (fun K1 hK1 => ?_)
      go_simp
      have bal : Below W.heap.size W (W.alloc (.cells #[.int .i64 0, .slice none 0 0, .slice none 0 0, .slice none 0 0] 39)).drew := (Below.alloc (Below.refl W.heap.size W) (Nat.le_refl _) _).drew
      refine hK1 _ _ (fun _ => bal) ?_
      clear hK1 K1
      refine wpPre_nil ?_
      refine wpTr_e rfl (fun K1 hK1 => ?_)
      refine step_call rfl 60 #[.tmp 7] _ rfl Try.f60 Try.func60 (by kernel_rfl) rfl #[.agg #[.int .i64 t.num, .slice t.cl.p t.cl.n t.cl.c]] rfl _ (HSt.out _ bal) (fun e va h => ?_)
      obtain ⟨cl, rfl, hca, hci, hbc⟩ := h
      refine ⟨_, rfl, ?_⟩
      have bva : Below W.heap.size W va := Below.trans bal (hbc.mono (Below.size bal))
      go_simp
      refine hK1 _ _ (fun _ => bva) ?_
      clear hK1 K1
      refine wpPre_nil ?_
      refine wpTr_e rfl (fun K1 hK1 => ?_)
      refine step_call rfl 61 #[.tmp 10] _ rfl Try.f61 Try.func61 (by kernel_rfl) rfl #[.slice t.pd.p t.pd.n t.pd.c] rfl _ (HRc.out _ bva) (fun e vb h => ?_)
      obtain ⟨pd, rfl, hpa, hpi, hbp⟩ := h
      refine ⟨_, rfl, ?_⟩
      have bvb : Below W.heap.size W vb := Below.trans bva (hbp.mono (Below.size bva))
      go_simp
      refine hK1 _ _ (fun _ => bvb) ?_
      clear hK1 K1
      refine wpPre_e rfl rfl (fun K1 hK1 => ?_)
      apply Exists.intro
      refine And.intro (fun wx hx => ?_) ?_
      · go_simp
        try rfl
      go_simp
      refine hK1 _ ?_
      clear hK1 K1
      refine wpPre_nil ?_
      have hob := (((Box.new W #[.int .i64 0, .slice none 0 0, .slice none 0 0, .slice none 0 0] 39).below (Below.refl _ _).drew).below hbc).below hbp
      have k0 := hob.cell 0
      have g0 := hob.frozen 0
      have k1 := hob.cell 1
      have g1 := hob.frozen 1
      have k2 := hob.cell 2
      have g2 := hob.frozen 2
      have k3 := hob.cell 3
      have g3 := hob.frozen 3
      have obl := hob.lt
      simp at k0 k1 k2 k3
      refine wpTr_e rfl (fun K1 hK1 => ?_)
      go_simp
      refine hK1 _ _ (fun h => by cases h) ?_
      clear hK1 K1
      refine wpPre_nil ?_
      refine wpTr_done ?_
      go_wp2_with fail
      go_meet
      have hz1 := hbc.size
      simp at hz1
      have hz3 := HsW.out
      exact ⟨W.heap.size, cl, pd, rfl, PaO.put (HT.out.below bvb) (by omega) hob hca hpa ((hci.mono (S' := fun b => w.heap.size + 2 ≤ b ∧ b ≠ W.heap.size) (fun b hb hl => by simp at hb; exact ⟨by omega, by omega⟩)).below hbp) (hpi.mono (fun b hb hl => ⟨by omega, by omega⟩)) rfl⟩
  case rest =>
    obtain ⟨ob, cl, pd, rfl, hP⟩ := hcut
    have HP : Hid (PaO w wc t ob cl pd (.slice none 0 0) (fun b => (w.heap.size + 2 ≤ b ∧ b ≠ ob) ∧ b < wc.heap.size)) := ⟨hP.tw, hP.ob0, hP.box, hP.ca, hP.pa, hP.ci.mono fun b hb hl => ⟨hb, hl⟩, hP.pi.mono fun b hb hl => ⟨hb, hl⟩, fun b h => h.1⟩
    clear x0 x1 x3 xl zl hP
    go_wp2_with fail
    go_loopw [4] (fun x wr => ∃ (k : Nat) (g : Nat → LT RT) (pv : Option Addr) (cv : Nat), k ≤ t.lg.n ∧ x = .int .i64 (k : Int) ∧ PaO w wr t ob cl pd (.slice pv k cv) (fun b => (w.heap.size + 2 ≤ b ∧ b ≠ ob) ∧ b < wc.heap.size) ∧ OwnL elRecs wc.heap.size wr (.slice pv k cv) k g ∧ wc.heap.size ≤ wr.heap.size ∧ (∀ q, q < k → LAlk RT.Alike (t.lg.item q) (g q))) (fun x _ => t.lg.n - (intOf x).toNat)
    case atStart => exact ⟨0, t.lg.item, none, 0, Nat.zero_le _, rfl, HP.out, ⟨World.ownsRow_nil _ _ _ _, fun j hj => absurd hj (by omega)⟩, Nat.le_refl _, fun q hq => absurd hq (by omega)⟩
    case round =>
      have hobl := HP.out.box.lt
      clear HP
      obtain ⟨k, g, pv, cv, hk, rfl, hP, hL, hsz, hal⟩ := hrel
      have HP := hid hP
      have HL := hid hL
      have HA := hid hal
      have ra := hP.tw.ba.lt
      have rb := hP.tw.bb.lt
      have ro := hP.box.lt
      have d2 := hP.tw.ba.cell 2
      have o2 := hP.box.cell 2
      have hob0 := hP.ob0
      simp at d2 o2
      have hbw := hP.tw.bel.size
      clear hP hL hal
      by_cases hlt : k < t.lg.n
      · have hlt' : (k : Int) < (t.lg.n : Int) := by omega
        obtain ⟨bb, o, hp, hSb, hbb, hat⟩ := HL0.out.at_ (by omega)
        rw [hp] at d2
        have r0 : wr.cell? ⟨bb, o + k, none⟩ = some (.slice (t.lg.item k).p (t.lg.item k).n (t.lg.item k).c) := (World.cell?_of_block (a := ⟨bb, o + k, none⟩) (HP.out.tw.bel.block bb hbb)).trans (by have := hat k hlt 0 _ rfl; simpa [elRecs] using this)
        have hbr : bb < wr.heap.size := by omega
        have HC := hid (HRl.out wr k hlt HP.out.tw.bel)
        clear hat hp
        go_wp2_with fail
        refine HC.out.mono ?_
        rintro e w2 ⟨u, rfl, hal2, hin2, hb2⟩
        have HP2 := hid (HP.out.below hb2)
        have HL2 := hid (HL.out.keep hb2.size (fun j _ hl => hb2.block j hl))
        have HU := hid hal2
        have o2' := (World.cell?_of_block (a := ⟨ob, 2, none⟩) (hb2.block _ ro)).trans o2
        have ro2 := HP2.out.box.lt
        have hs2 := hb2.size
        have ha : Below w2.heap.size w2 (w2.alloc (.cells #[.slice u.p u.n u.c] 37)) := (Below.refl _ _).alloc (Nat.le_refl _) _
        have HAl := hid ha
        have hu2 : elRecs.In w2 (fun b => wc.heap.size ≤ b ∧ (Value.slice pv k cv).ownBlock ≠ some b) u := LT.In.mono hin2 fun b hb _ => ⟨by omega, fun e => by have := (HL.out.own.lt b e).2; omega⟩
        have HU2 := hid hu2
        have HNw : Hid (∀ j u', (elRecs.cells u)[j]? = some u' → (w2.alloc (.cells #[.slice u.p u.n u.c] 37)).cell? ((⟨w2.heap.size, 0, none⟩ : Addr).add j) = some u') := fun j u' hu => by
          rw [Go.WideShapes.add_plain, (Box.new w2 #[.slice u.p u.n u.c] 37).cell]
          rw [show 0 + j = j by omega]
          simpa [elRecs] using hu
        clear hal2 hin2 hb2 HC r0 o2 d2 ha hu2
        go_wp2_with (at_builtin; refine wpList_app rfl (.tmp 27) (.tmp 29) 36 37 i1 _ 1 24 HKc.out rfl wc.heap.size (.slice pv k cv) k _ rfl (HL2.out.own.alloc _) ⟨w2.heap.size, 0, none⟩ 1 1 (elRecs.cells u) rfl rfl HNw.out (elRecs.one u) (by omega) (by omega) (by simp; omega) ?_)
        intro v6 w6 ho6 hg6 hn6
        have hL6 := (HL2.out.keep HAl.out.size (fun j _ hl => HAl.out.block j hl)).push (elRecs.kept HU2.out HAl.out.size (fun b _ hl => HAl.out.block b hl)) ho6 hg6 hn6
        obtain ⟨p6, c6, rfl⟩ := ownsRow_slice ho6
        have hr6 : ∀ j, (Value.slice pv k cv).ownBlock = some j → wc.heap.size ≤ j := fun j hj => (HL2.out.own.lt j hj).1
        have hP5 := HP2.out.below HAl.out
        have hK6 : ∀ j, j < (w2.alloc (.cells #[.slice u.p u.n u.c] 37)).heap.size → j < wc.heap.size → w6.heap[j]? = (w2.alloc (.cells #[.slice u.p u.n u.c] 37)).heap[j]? := fun j hj hl => hg6.block j hj (fun e => by have := hr6 _ e.symm; omega)
        have hO6 := hP5.box.kept (hK6 _ hP5.box.lt hobl)
        have y2 := hO6.cell 2
        have f2 := hO6.frozen 2
        have ol6 := hO6.lt
        simp at y2
        have HX6 := hid (And.intro hL6 (And.intro hO6 (And.intro hP5 (And.intro hK6 (And.intro hg6 hr6)))))
        have hs6 : wc.heap.size ≤ w6.heap.size := by have := hg6.size; simp at this; omega
        clear ho6 hg6 hn6 hL6 hP5 hO6 hr6 hK6 HNw HAl
        go_wp2
        have hbt : But (fun y => y = ob) w6 (w6.setCell ⟨ob, 2, none⟩ (.slice p6 (k + 1) c6)) := (But.one w6 ob).setAt 2 _
        obtain ⟨hL6, hO6, hP5, hK6, hg6, hr6⟩ := HX6.out
        have hk2 : ∀ j, j < wc.heap.size → j ≠ ob → j < (w2.alloc (.cells #[.slice u.p u.n u.c] 37)).heap.size → (w6.setCell ⟨ob, 2, none⟩ (.slice p6 (k + 1) c6)).heap[j]? = (w2.alloc (.cells #[.slice u.p u.n u.c] 37)).heap[j]? := fun j h1 h2 h3 => (hbt.block j (Nat.lt_of_lt_of_le h3 hg6.size) h2).trans (hK6 j h3 h1)
        have HP7 : Hid (PaO w (w6.setCell ⟨ob, 2, none⟩ (.slice p6 (k + 1) c6)) t ob cl pd (.slice p6 (k + 1) c6) (fun b => (w.heap.size + 2 ≤ b ∧ b ≠ ob) ∧ b < wc.heap.size)) := by
          refine ⟨⟨hP5.tw.ba.kept (hk2 _ (by omega) (by omega) hP5.tw.ba.lt), hP5.tw.bb.kept (hk2 _ (by omega) (by omega) hP5.tw.bb.lt), hP5.tw.bel.trans ⟨hbt.os.trans hg6.os, hbt.tape.trans hg6.tape, hbt.output.trans hg6.output, Nat.le_trans hg6.size hbt.size, fun x hx => hk2 x (by omega) (by omega) (Nat.lt_of_lt_of_le hx hP5.tw.bel.size)⟩⟩, hP5.ob0, ?_, hP5.ca, hP5.pa, hP5.ci.kept (Nat.le_trans hg6.size hbt.size) (fun b hb hl => hk2 b hb.2 hb.1.2 hl), hP5.pi.kept (Nat.le_trans hg6.size hbt.size) (fun b hb hl => hk2 b hb.2 hb.1.2 hl), hP5.hS⟩
          have h := hO6.set 2 (.slice p6 (k + 1) c6)
          simpa using h
        have HL7 := hid (hL6.keep hbt.size (fun j hj hl => hbt.block j hl (by omega)))
        have HA7 : Hid (∀ q, q < k + 1 → LAlk RT.Alike (t.lg.item q) (if q < k then g q else u)) := by
          intro q hq
          by_cases hqk : q < k
          · rw [if_pos hqk]; exact HA.out q hqk
          · rw [if_neg hqk]
            obtain rfl : q = k := by omega
            exact HU.out
        clear hbt hL6 hO6 hP5 hK6 hg6 hr6 hk2
        go_roundw
        case rel => exact ⟨k + 1, _, p6, c6, by omega, by go_num, HP7.out, HL7.out, by simpa [World.setCell] using hs6, HA7.out⟩
        case measure => simp [intOf]; omega
      · obtain rfl : k = t.lg.n := by omega
        have hlt' : ¬ (t.lg.n : Int) < (t.lg.n : Int) := by omega
        obtain ⟨p3, c3, hv, hL⟩ := HL.out.in_ (by omega)
        simp only [Value.slice.injEq, true_and] at hv
        obtain ⟨rfl, rfl⟩ := hv
        have HLI := hid hL
        have z0 := HP.out.tw.bb.cell 0
        have z1 := HP.out.tw.bb.cell 1
        have z2 := HP.out.tw.bb.cell 2
        have z3 := HP.out.tw.bb.cell 3
        have g0 := HP.out.tw.bb.frozen 0
        have g1 := HP.out.tw.bb.frozen 1
        have g2 := HP.out.tw.bb.frozen 2
        have g3 := HP.out.tw.bb.frozen 3
        have o0 := HP.out.box.cell 0
        have o1 := HP.out.box.cell 1
        have o3 := HP.out.box.cell 3
        simp at z0 z1 z2 z3 o0 o1 o3
        clear hL
        go_wp2
        have hbt : But (fun y => y = w.heap.size + 1) wr ((((wr.setCell ⟨w.heap.size + 1, 0, none⟩ (.int .i64 t.num)).setCell ⟨w.heap.size + 1, 1, none⟩ (.slice cl.p cl.n cl.c)).setCell ⟨w.heap.size + 1, 2, none⟩ (.slice pv t.lg.n cv)).setCell ⟨w.heap.size + 1, 3, none⟩ (.slice pd.p pd.n pd.c)) := ((((But.one wr _).setAt 0 _).setAt 1 _).setAt 2 _).setAt 3 _
        refine bodyPost_ret (v := .agg #[.int .i64 t.num, .slice cl.p cl.n cl.c, .slice pv t.lg.n cv, .slice pd.p pd.n pd.c]) (by simp [results, Try.results42, go_sem, z0, z1, z2, z3]) rfl ⟨⟨t.num, cl, ⟨pv, t.lg.n, cv, g⟩, pd⟩, rfl, ⟨rfl, HP.out.ca, ⟨rfl, HA.out⟩, HP.out.pa⟩, ⟨?_, ?_, ?_⟩, HP.out.tw.bel.trans (hbt.below HP.out.tw.bel.size (fun x hx e => by omega))⟩
        · exact (HP.out.ci.kept hbt.size (fun b hb hl => hbt.block b hl (by omega))).mono fun b hb _ => by omega
        · exact (HLI.out.kept hbt.size (fun b hb hl => hbt.block b hl (by omega))).mono fun b hb _ => by omega
        · exact (HP.out.pi.kept hbt.size (fun b hb hl => hbt.block b hl (by omega))).mono fun b hb _ => by omega
end Go.Proofs.Ytldkepokcbjlpaa
