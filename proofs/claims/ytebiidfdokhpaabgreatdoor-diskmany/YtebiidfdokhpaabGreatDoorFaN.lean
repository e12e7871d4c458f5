import Derived.Test.YtebiidfdokhpaabGreatDoorEfK
import Derived.Test.YtebiidfdokhpaabGreatDoorFaK
import Derived.Test.YtebiidfdokhpaabGreatDoorFaM
namespace Go.Proofs.YtebiidfdokhpaabGreatDoor
open Go.RowKit
set_option maxRecDepth 8000
theorem RkI.put2X {w w2 : World} {C : Nat → Prop} {rb : Nat} {R : RK} {s : ByteArray} {i g : Nat} {f f' : RF} (h : RkI w C rb R) (hi : R.is s i f) (hab : R.ab g) (hn : f'.name = f.name) (hb2 : But f.blk w w2)
    (hs : OwnBy 0 w2 (.slice f'.sp f'.su.length f'.sc) f'.su) (hl : OwnBy 0 w2 (.slice f'.lp f'.lo.length f'.lc) f'.lo) (hnew : ∀ k, f'.blk k → f.blk k ∨ w.heap.size ≤ k)
    (hne : ∀ g, f'.sb g → ¬ f'.lb g) (hle : f'.su.length + f'.lo.length ≤ 65536) (hby : ∀ z ∈ f'.su ++ f'.lo, 0 ≤ z ∧ z ≤ 255) :
    RkI ((w2.setCell ⟨g, i * 3 + 1, none⟩ (.slice f'.sp f'.su.length f'.sc)).setCell ⟨g, i * 3 + 2, none⟩ (.slice f'.lp f'.lo.length f'.lc)) (fun k => C k ∨ w.heap.size ≤ k) rb { R with fs := R.fs.set i f' } ∧ But C w ((w2.setCell ⟨g, i * 3 + 1, none⟩ (.slice f'.sp f'.su.length f'.sc)).setCell ⟨g, i * 3 + 2, none⟩ (.slice f'.lp f'.lo.length f'.lc)) := by
  have hfm := List.mem_of_getElem? hi.1
  have hF := h.each f hfm
  have hb3 : But R.ab w2 ((w2.setCell ⟨g, i * 3 + 1, none⟩ (.slice f'.sp f'.su.length f'.sc)).setCell ⟨g, i * 3 + 2, none⟩ (.slice f'.lp f'.lo.length f'.lc)) := ((But.refl R.ab w2).setCell (p := ⟨g, i * 3 + 1, none⟩) (fun _ => hab) _).setCell (p := ⟨g, i * 3 + 2, none⟩) (fun _ => hab) _
  have hnab : ∀ k, f'.blk k → ¬ R.ab k := fun k hk hab => by
    rcases hnew k hk with h1 | h1
    · exact (h.low f hfm k h1).2 hab
    · have := h.abl hab; omega
  have hb := (hb2.mono (Y := fun k => f.blk k ∨ R.ab k) fun _ _ e => .inl e).trans (hb3.mono fun _ _ e => .inr e)
  have hI : RfI ((w2.setCell ⟨g, i * 3 + 1, none⟩ (.slice f'.sp f'.su.length f'.sc)).setCell ⟨g, i * 3 + 2, none⟩ (.slice f'.lp f'.lo.length f'.lc)) (fun k => C k ∨ w.heap.size ≤ k) f' :=
    ⟨by rw [hn]; exact hF.nm, ownsRow_keep hs fun k hk hl => hb3.block k hl (hnab k (.inl hk)), ownsRow_keep hl fun k hk hl => hb3.block k hl (hnab k (.inr hk)), fun k hk => (hnew k hk).imp_left fun e => (hF.blk e).1, hne, hle, hby⟩
  refine ⟨h.upd hi.1 hn hI ?_ hb hnew, hb.mono fun k _ e => e.elim (fun e => (hF.blk e).1) (fun e => (h.ca k e).1)⟩
  rw [flatR_set R.fs i f f' hi.1 hn]
  exact row_put (row_put (h.row2 hi hb2) hab _ _) hab _ _
/-- what of a file survives -/
def rsK (k : Key) (u : Int) : Key := (k.1, k.2.1.take (k.2.2.toNat + (min (max u 0) ((k.2.1.length : Int) - k.2.2)).toNat), ((k.2.1.take (k.2.2.toNat + (min (max u 0) ((k.2.1.length : Int) - k.2.2)).toNat)).length : Int))
/-- the first i files are as they survive -/
structure RsK (R : RK) (K : LT Int) (i : Nat) (Ri : RK) : Prop where
  ks : ∀ j, (Ri.fs.map RF.key)[j]? = ((R.fs.map RF.key)[j]?).map fun k => if j < i then rsK k (kpU K j) else k
  rg : Ri.down = true ∧ Ri.left = -1 ∧ Ri.fails = 0 ∧ Ri.after = R.after
  len : Ri.fs.length = R.fs.length
theorem RsK.step {R Ri : RK} {K : LT Int} {i m : Nat} {f f' : RF} (h : RsK R K i Ri) (hi : Ri.fs[i]? = some f) (hm : m = (min (max (kpU K i) 0) (f.lo.length : Int)).toNat) (hk : f'.key = (f.name, f.su ++ f.lo.take m, ((f.su ++ f.lo.take m).length : Int))) : RsK R K (i + 1) { Ri with fs := Ri.fs.set i f' } := by
  have hlt := (List.getElem?_eq_some_iff.1 hi).1
  refine ⟨fun j => ?_, h.rg, by show (Ri.fs.set i f').length = _; rw [List.length_set]; exact h.len⟩
  have h1 := h.ks j
  rw [List.getElem?_map] at h1 ⊢
  rw [List.getElem?_set]
  by_cases hj : i = j
  · subst hj
    rw [if_pos rfl, if_pos hlt]
    rw [hi, Option.map_some] at h1
    cases hx : (R.fs.map RF.key)[i]? with
    | none => rw [hx] at h1; cases h1
    | some k =>
      rw [hx, Option.map_some, if_neg (by omega)] at h1
      have hkk : f.key = k := Option.some.inj h1
      rw [Option.map_some, Option.map_some, if_pos (by omega), ← hkk, hk]
      congr 1
      have e0 : f.key.2.1 = f.su ++ f.lo := rfl
      have e1 : f.key.2.2 = (f.su.length : Int) := rfl
      have e2 : f.key.1 = f.name := rfl
      have e3 : f.key.2.2.toNat + (min (max (kpU K i) 0) ((f.key.2.1.length : Int) - f.key.2.2)).toNat = f.su.length + m := by
        rw [e0, e1, hm, List.length_append]
        omega
      unfold rsK
      rw [e3, e0, e2]
      have e4 : (f.su ++ f.lo).take (f.su.length + m) = f.su ++ f.lo.take m := by rw [List.take_append, List.take_of_length_le (by omega)]; simp
      rw [e4]
  · rw [if_neg hj, h1]
    cases (R.fs.map RF.key)[j]? with
    | none => rfl
    | some k =>
      simp only [Option.map_some]
      by_cases h2 : j < i
      · rw [if_pos h2, if_pos (by omega)]
      · rw [if_neg h2, if_neg (by omega)]
/-- behind Restart -/
def RsR (R : RK) (K : LT Int) (C : Nat → Prop) (rb : Nat) (w w' : World) : Prop :=
  ∃ Ri, RsK R K R.fs.length Ri ∧ RkI w' (fun k => C k ∨ w.heap.size ≤ k) rb { Ri with down := false } ∧ But C w w'
set_option maxHeartbeats 8000000 in
theorem rrestart_any (R : RK) (K : LT Int) (w : World) (C S : Nat → Prop) (rb : Nat) (hR : RkI w C rb R) (hK : LT.In elInt w S K) (hSC : ∀ b, S b → ¬ C b) (hSl : ∀ b, S b → b < w.heap.size) :
    Calls Tryz.prog 53 #[.pointer (some ⟨rb, 0, none⟩), .slice K.p K.n K.c] w fun e w' => e = .returned (.tuple #[]) ∧ RsR R K C rb w w' := by
  obtain ⟨i0, Kd⟩ := kindB
  have HKd := hid Kd
  have HFa := hid (rfall_any R w C rb hR)
  have HK := hid hK
  have HSC := hid hSC
  have HSl := hid hSl
  have hKn := hK.nn
  have hn4 := hR.n
  clear hR Kd hK hSC hSl
  go_enter Tryz.func53, Tryz.ntmps53
  go_wp2_with fail
  refine HFa.out.mono ?_
  rintro e wA ⟨rfl, hQA⟩
  have HIA : Hid (RkI wA (fun k => C k ∨ w.heap.size ≤ k) rb R.fallen) := hQA.1.mono fun _ hk _ => .inl hk
  have HBA : Hid (But C w wA) := hQA.rc.2
  clear hQA HFa
  go_wp2_with fail
  go_loopw [4, 5] (fun x _ wr => ∃ (i : Nat) (Ri : RK), i ≤ R.fs.length ∧ x = .int .i64 (i : Int) ∧ RsK R K i Ri ∧ RkI wr (fun k => C k ∨ w.heap.size ≤ k) rb Ri ∧ But C w wr) (fun x _ _ => R.fs.length - (intOf x).toNat)
  case atStart =>
    refine ⟨0, R.fallen, Nat.zero_le _, rfl, ⟨fun j => ?_, ⟨rfl, rfl, rfl, rfl⟩, rfl⟩, HIA.out, HBA.out⟩
    show (R.fs.map RF.key)[j]? = _
    cases (R.fs.map RF.key)[j]? <;> simp
  case round =>
    obtain ⟨i, Ri, hi, rfl, hKs, hIk, hbw⟩ := hrel
    have HKs := hid hKs
    have HIk := hid hIk
    have HBw := hid hbw
    clear hKs hIk hbw
    have HLn : Hid (Ri.fs.length = R.fs.length) := HKs.out.len
    have r0 := HIk.out.bx.cell 0
    have r1 := HIk.out.bx.cell 1
    have g1 := HIk.out.bx.frozen 1
    have rl := HIk.out.bx.lt
    simp at r0 r1
    by_cases hlt : i < R.fs.length
    · have hlt2 : i < Ri.fs.length := by have := HLn.out; omega
      have hlt' : (i : Int) < (Ri.fs.length : Int) := by omega
      obtain ⟨f, hf⟩ : ∃ f, Ri.fs[i]? = some f := ⟨_, List.getElem?_eq_getElem hlt2⟩
      have HIs : Hid (Ri.is f.name i f) := ⟨hf, rfl⟩
      obtain ⟨g, hp, hab, hrg, _, hnl, hF, hAt⟩ := HIk.out.getAt HIs.out
      have HAb := hid hab
      have HF := hid hF
      have HAt := hid hAt
      have hle := hF.le
      rw [hp] at r0
      clear hf hab hp hF hAt r1 g1
      by_cases hk0 : K.n = 0
      · have hk0' : ¬ (0 : Int) < (K.n : Int) := by omega
        obtain ⟨m, hm⟩ : ∃ m : Nat, m = 0 := ⟨0, rfl⟩
        have HMk : Hid (m = (min (max (kpU K i) 0) (f.lo.length : Int)).toNat) := by
          show m = _
          rw [hm, kpU, if_pos hk0]
          omega
        have hml : m ≤ f.lo.length := by omega
        have HM0 := hid hm
        have hmc : ((m : Nat) : Int) = 0 := by omega
        obtain ⟨wq, hwq⟩ : ∃ V, V = wr := ⟨_, rfl⟩
        have HIq : Hid (RkI wq (fun k => C k ∨ w.heap.size ≤ k) rb Ri) := by show RkI _ _ _ _; rw [hwq]; exact HIk.out
        have HBq : Hid (But C w wq) := by show But _ _ _; rw [hwq]; exact HBw.out
        have HAq : Hid (At wq Ri rb g i f) := by show At _ _ _ _ _ _; rw [hwq]; exact HAt.out
        have HFq : Hid (RfI wq (fun k => C k ∨ w.heap.size ≤ k) f) := by show RfI _ _ _; rw [hwq]; exact HF.out
        clear HF
        have HF := HFq
        go_upto_region 7 with fail
        rw [← hwq]
        rw [show (Value.int .i64 0) = Value.int .i64 (m : Int) from by rw [hmc]]
        clear hwq hm hmc r0 rl hk0
        have HMv : Hid (∀ wx, But f.blk wq wx → At wx Ri rb g i f) := fun wx hx => HIq.out.moveAt HIs.out HAb.out HAq.out hx
        have hcc : f.lo.length ≤ f.lc := (own_byts HF.out.l (S := fun _ => True) (fun _ _ => trivial) (fun z hz => HF.out.by_ z (List.mem_append_right _ hz)) (by omega)).nc
        have hnc : (m : Int) ≤ (f.lc : Int) := by omega
        have HS : Hid (wq.drew.ownsRow 0 5 1 (.slice f.sp f.su.length f.sc) f.su.length (f.su.map (Value.int .u8))) := HF.out.s
        have HSrc : Hid (Src wq.drew f.lp m f.lc 1 ((f.lo.take m).map (Value.int .u8))) := Src.take (HF.out.l.src rfl) m hml
        go_upto_region 7 with fail
        refine wp_region_calmE 30 (fun wx => But f.blk wq wx) [(0, true), (1, true), (2, true), (3, false), (4, true), (5, true), (6, true), (7, true), (8, false), (9, true), (10, true), (11, true), (12, false), (13, true), (14, true), (15, true), (16, false), (17, true), (18, true), (19, true), (20, false), (21, true), (22, true)] (.one 23 true [(24, true), (25, true)] (.one 26 false [] .done)) (by kernel_rfl) (by kernel_rfl) (But.refl _ _).drew ?_
        refine wpPre_e rfl rfl (fun K1 hK1 => ?_)
        apply Exists.intro
        refine And.intro (fun wx hx => ?_) ?_
        · go_simp
          try rfl
        go_simp
        refine hK1 _ ?_
        clear hK1 K1
        refine wpPre_e rfl rfl (fun K1 hK1 => ?_)
        apply Exists.intro
        refine And.intro (fun wx hx => ?_) ?_
        · go_simp
          try rfl
        go_simp
        refine hK1 _ ?_
        clear hK1 K1
        refine wpPre_e rfl rfl (fun K1 hK1 => ?_)
        apply Exists.intro
        refine And.intro (fun wx hx => ?_) ?_
        · go_simp
          try rfl
        go_simp
        refine hK1 _ ?_
        clear hK1 K1
        refine wpPre_e rfl rfl (fun K1 hK1 => ?_)
        apply Exists.intro
        refine And.intro (fun wx hx => ?_) ?_
        · have e0 := (HMv.out wx (hx.resolve_left (by simp))).r0
          go_simp
          try rfl
        go_simp
        refine hK1 _ ?_
        clear hK1 K1
        refine wpPre_e rfl rfl (fun K1 hK1 => ?_)
        apply Exists.intro
        refine And.intro (fun wx hx => ?_) ?_
        · go_simp
          try rfl
        go_simp
        refine hK1 _ ?_
        clear hK1 K1
        refine wpPre_e rfl rfl (fun K1 hK1 => ?_)
        apply Exists.intro
        refine And.intro (fun wx hx => ?_) ?_
        · go_simp
          try rfl
        go_simp
        refine hK1 _ ?_
        clear hK1 K1
        refine wpPre_e rfl rfl (fun K1 hK1 => ?_)
        apply Exists.intro
        refine And.intro (fun wx hx => ?_) ?_
        · go_simp
          try rfl
        go_simp
        refine hK1 _ ?_
        clear hK1 K1
        refine wpPre_e rfl rfl (fun K1 hK1 => ?_)
        apply Exists.intro
        refine And.intro (fun wx hx => ?_) ?_
        · go_simp
          try rfl
        go_simp
        refine hK1 _ ?_
        clear hK1 K1
        refine wpPre_e rfl rfl (fun K1 hK1 => ?_)
        apply Exists.intro
        refine And.intro (fun wx hx => ?_) ?_
        · have e0 := (HMv.out wx (hx.resolve_left (by simp))).r0
          go_simp
          try rfl
        go_simp
        refine hK1 _ ?_
        clear hK1 K1
        refine wpPre_e rfl rfl (fun K1 hK1 => ?_)
        apply Exists.intro
        refine And.intro (fun wx hx => ?_) ?_
        · go_simp
          try rfl
        go_simp
        refine hK1 _ ?_
        clear hK1 K1
        refine wpPre_e rfl rfl (fun K1 hK1 => ?_)
        apply Exists.intro
        refine And.intro (fun wx hx => ?_) ?_
        · go_simp
          try rfl
        go_simp
        refine hK1 _ ?_
        clear hK1 K1
        refine wpPre_e rfl rfl (fun K1 hK1 => ?_)
        apply Exists.intro
        refine And.intro (fun wx hx => ?_) ?_
        · go_simp
          try rfl
        go_simp
        refine hK1 _ ?_
        clear hK1 K1
        refine wpPre_e rfl rfl (fun K1 hK1 => ?_)
        apply Exists.intro
        refine And.intro (fun wx hx => ?_) ?_
        · have e0 := (HMv.out wx (hx.resolve_left (by simp))).a1
          go_simp
          try rfl
        go_simp
        refine hK1 _ ?_
        clear hK1 K1
        refine wpPre_e rfl rfl (fun K1 hK1 => ?_)
        apply Exists.intro
        refine And.intro (fun wx hx => ?_) ?_
        · go_simp
          try rfl
        go_simp
        refine hK1 _ ?_
        clear hK1 K1
        refine wpPre_e rfl rfl (fun K1 hK1 => ?_)
        apply Exists.intro
        refine And.intro (fun wx hx => ?_) ?_
        · go_simp
          try rfl
        go_simp
        refine hK1 _ ?_
        clear hK1 K1
        refine wpPre_e rfl rfl (fun K1 hK1 => ?_)
        apply Exists.intro
        refine And.intro (fun wx hx => ?_) ?_
        · go_simp
          try rfl
        go_simp
        refine hK1 _ ?_
        clear hK1 K1
        refine wpPre_e rfl rfl (fun K1 hK1 => ?_)
        apply Exists.intro
        refine And.intro (fun wx hx => ?_) ?_
        · have e0 := (HMv.out wx (hx.resolve_left (by simp))).r0
          go_simp
          try rfl
        go_simp
        refine hK1 _ ?_
        clear hK1 K1
        refine wpPre_e rfl rfl (fun K1 hK1 => ?_)
        apply Exists.intro
        refine And.intro (fun wx hx => ?_) ?_
        · go_simp
          try rfl
        go_simp
        refine hK1 _ ?_
        clear hK1 K1
        refine wpPre_e rfl rfl (fun K1 hK1 => ?_)
        apply Exists.intro
        refine And.intro (fun wx hx => ?_) ?_
        · go_simp
          try rfl
        go_simp
        refine hK1 _ ?_
        clear hK1 K1
        refine wpPre_e rfl rfl (fun K1 hK1 => ?_)
        apply Exists.intro
        refine And.intro (fun wx hx => ?_) ?_
        · go_simp
          try rfl
        go_simp
        refine hK1 _ ?_
        clear hK1 K1
        refine wpPre_e rfl rfl (fun K1 hK1 => ?_)
        apply Exists.intro
        refine And.intro (fun wx hx => ?_) ?_
        · have e0 := (HMv.out wx (hx.resolve_left (by simp))).a2
          go_simp
          try rfl
        go_simp
        refine hK1 _ ?_
        clear hK1 K1
        refine wpPre_e rfl rfl (fun K1 hK1 => ?_)
        apply Exists.intro
        refine And.intro (fun wx hx => ?_) ?_
        · go_simp
          try rfl
        go_simp
        refine hK1 _ ?_
        clear hK1 K1
        refine wpPre_e rfl rfl (fun K1 hK1 => ?_)
        apply Exists.intro
        refine And.intro (fun wx hx => ?_) ?_
        · go_simp
          try rfl
        go_simp
        refine hK1 _ ?_
        clear hK1 K1
        refine wpPre_nil ?_
        refine wpTr_e rfl (fun K1 hK1 => ?_)
        refine step_appS rfl (.tmp 50) (.tmp 60) 31 5 i0 _ 1 1 HKd.out rfl 0 (.slice f.sp f.su.length f.sc) f.su.length _ rfl HS.out f.lp m f.lc _ rfl HSrc.out (one_u8 (f.lo.take m)) (by omega) (by omega) (Nat.zero_le _) ?_
        intro v3 w3 ho hg hn
        obtain ⟨p3, c3, hv3⟩ := ownsRow_slice ho
        subst hv3
        have HO := hid ho
        have HG := hid hg
        have HN := hid hn
        clear ho hg hn
        have HB3 : Hid (But f.blk wq w3) := (But.refl f.blk wq).drew.trans (but_grown HG.out fun k e => .inl e)
        have HA3 := hid (HMv.out w3 HB3.out)
        have e0 := HA3.out.a1
        have e1 := HA3.out.gf (i * 3 + 1)
        have e2 := HA3.out.gl
        go_simp
        refine hK1 _ _ (fun _ => HB3.out) ?_
        clear hK1 K1
        refine wpPre_e rfl rfl (fun K1 hK1 => ?_)
        apply Exists.intro
        refine And.intro (fun wx hx => ?_) ?_
        · go_simp
          try rfl
        go_simp
        refine hK1 _ ?_
        clear hK1 K1
        refine wpPre_e rfl rfl (fun K1 hK1 => ?_)
        apply Exists.intro
        refine And.intro (fun wx hx => ?_) ?_
        · go_simp
          try rfl
        go_simp
        refine hK1 _ ?_
        clear hK1 K1
        refine wpPre_nil ?_
        refine wpTr_e rfl (fun K1 hK1 => ?_)
        go_simp
        refine hK1 _ _ (fun h => by cases h) ?_
        clear hK1 K1
        refine wpPre_nil ?_
        refine wpTr_done ?_
        have HA5 := HA3
        obtain ⟨r5, r5l, _, _, a5, g5, g5l⟩ := HA5.out
        have g52 := g5 (i * 3 + 2)
        clear g5 e0 e1 e2
        have HE : Hid (RkI ((w3.setCell ⟨g, i * 3 + 1, none⟩ (.slice p3 (f.su.length + m) c3)).setCell ⟨g, i * 3 + 2, none⟩ (.slice none 0 0)) (fun k => C k ∨ w.heap.size ≤ k) rb { Ri with fs := Ri.fs.set i ⟨f.name, p3, c3, f.su ++ f.lo.take m, none, 0, []⟩ } ∧ But C w ((w3.setCell ⟨g, i * 3 + 1, none⟩ (.slice p3 (f.su.length + m) c3)).setCell ⟨g, i * 3 + 2, none⟩ (.slice none 0 0))) := by
          have htl : (f.lo.take m).length = m := by simp; omega
          have hln : (f.su ++ f.lo.take m).length = f.su.length + m := by rw [List.length_append, htl]
          have hown : OwnBy 0 w3 (.slice p3 (f.su.length + m) c3) (f.su ++ f.lo.take m) := by
            have h := OwnBy.app (zs := f.su) (ys := f.lo.take m) HF.out.s (by rw [htl]; exact HO.out)
            exact h
          have h := HIq.out.put2X (f' := ⟨f.name, p3, c3, f.su ++ f.lo.take m, none, 0, []⟩) HIs.out HAb.out rfl HB3.out (by show OwnBy 0 w3 (.slice p3 (f.su ++ f.lo.take m).length c3) _; rw [hln]; exact hown) (World.ownsRow_nil _ _ _ _) ?_ ?_ ?_ ?_
          · simp only [hln] at h
            refine ⟨h.1.mono fun k hk _ => ?_, HBq.out.cc h.2⟩
            rcases hk with hk | hk
            · exact hk
            · exact .inr (Nat.le_trans HBq.out.size hk)
          · rintro k (hk | hk)
            · have hk' : (Value.slice p3 (f.su.length + m) c3).ownBlock = some k := by
                have : (Value.slice p3 (f.su ++ f.lo.take m).length c3).ownBlock = some k := hk
                rw [hln] at this
                exact this
              rcases HN.out with h1 | h1
              · exact .inl (.inl (h1.symm.trans hk'))
              · exact .inr (h1 k hk')
            · cases hk
          · intro k _ hk
            cases hk
          · show (f.su ++ f.lo.take m).length + ([] : List Int).length ≤ 65536
            rw [hln]
            simp
            omega
          · intro z hz
            have hz' : z ∈ f.su ++ f.lo.take m := by simpa using hz
            rcases List.mem_append.1 hz' with h1 | h1
            · exact HF.out.by_ z (List.mem_append_left _ h1)
            · exact HF.out.by_ z (List.mem_append_right _ (List.mem_of_mem_take h1))
        have HKs2 : Hid (RsK R K (i + 1) { Ri with fs := Ri.fs.set i ⟨f.name, p3, c3, f.su ++ f.lo.take m, none, 0, []⟩ }) := HKs.out.step HIs.out.1 HMk.out (by unfold RF.key; simp)
        go_wp2
        go_roundw
        case rel => exact ⟨i + 1, _, by omega, by go_num, HKs2.out, HE.out.1, HE.out.2⟩
        case measure => simp [intOf]; omega
      · have hkn : (0 : Int) < (K.n : Int) := by omega
        obtain ⟨kb, ko, hkp, hkS, hkb, hkat⟩ := HK.out.at_ (by omega)
        have hmod : i % K.n < K.n := Nat.mod_lt _ (by omega)
        have HKu : Hid (kpU K i = K.item (i % K.n)) := by show kpU K i = _; rw [kpU, if_neg hk0]
        have HKe := hid (HK.out.each (i % K.n) hmod)
        have hkw : wr.heap[kb]? = w.heap[kb]? := HBw.out.block kb hkb (HSC.out kb hkS)
        have kc : wr.cell? ⟨kb, ko + i % K.n, none⟩ = some (.int .i64 (K.item (i % K.n))) := by
          have h := hkat (i % K.n) hmod 0 (.int .i64 (K.item (i % K.n))) rfl
          have e : ko + i % K.n * elInt.size + 0 = ko + i % K.n := by show ko + i % K.n * 1 + 0 = _; omega
          rw [e] at h
          exact (World.cell?_of_block (a := ⟨kb, ko + i % K.n, none⟩) hkw).trans h
        obtain ⟨mm, hmm⟩ : ∃ mm, mm = i % K.n := ⟨_, rfl⟩
        rw [← hmm] at kc hmod HKu HKe
        obtain ⟨uu, huu⟩ : ∃ uu, uu = K.item mm := ⟨_, rfl⟩
        rw [← huu] at kc HKu HKe
        have hrem : (i : Int).tmod (K.n : Int) = (mm : Int) := by rw [hmm, Int.tmod_eq_emod_of_nonneg (by omega)]; exact (Int.natCast_emod _ _).symm
        have hmi : (mm : Int) < (K.n : Int) := by omega
        have hwm : IntKind.i64.wrap (mm : Int) = (mm : Int) := by rw [IntKind.wrap_i64]; omega
        obtain ⟨m, hm⟩ : ∃ m : Nat, m = (min (max uu 0) (f.lo.length : Int)).toNat := ⟨_, rfl⟩
        have HMk : Hid (m = (min (max (kpU K i) 0) (f.lo.length : Int)).toNat) := by show m = _; rw [hm, HKu.out]
        have hml : m ≤ f.lo.length := by omega
        have HMe : Hid (min (max uu 0) (f.lo.length : Int) = (m : Int)) := by show min (max uu 0) (f.lo.length : Int) = (m : Int); omega
        have hku : -9223372036854775808 ≤ uu ∧ uu ≤ 9223372036854775807 := HKe.out
        rw [hkp]
        have HKp := hid hkp
        have a2 := HAt.out.a2
        have gl := HAt.out.gl
        clear hkat hkw hmm huu hkS hkp hm hmod
        go_upto_region 6 with fail
        refine wp_region_calmE 30 (fun wx => Below wr.heap.size wr wx) [(0, true), (1, true), (2, true), (3, true), (4, true), (5, true), (6, false), (7, true), (8, true), (9, true), (10, true), (11, false), (12, true), (13, true), (14, true), (15, false), (16, true), (17, true), (18, true)] .done (by kernel_rfl) (by kernel_rfl) (Below.refl _ _).drew ?_
        refine wpPre_e rfl rfl (fun K1 hK1 => ?_)
        apply Exists.intro
        refine And.intro (fun wx hx => ?_) ?_
        · go_simp
          try rfl
        go_simp
        refine hK1 _ ?_
        clear hK1 K1
        refine wpPre_e rfl rfl (fun K1 hK1 => ?_)
        apply Exists.intro
        refine And.intro (fun wx hx => ?_) ?_
        · go_simp
          try rfl
        go_simp
        refine hK1 _ ?_
        clear hK1 K1
        refine wpPre_e rfl rfl (fun K1 hK1 => ?_)
        apply Exists.intro
        refine And.intro (fun wx hx => ?_) ?_
        · go_simp
          try rfl
        go_simp
        refine hK1 _ ?_
        clear hK1 K1
        refine wpPre_e rfl rfl (fun K1 hK1 => ?_)
        apply Exists.intro
        refine And.intro (fun wx hx => ?_) ?_
        · go_simp
          try rfl
        go_simp
        refine hK1 _ ?_
        clear hK1 K1
        refine wpPre_e rfl rfl (fun K1 hK1 => ?_)
        apply Exists.intro
        refine And.intro (fun wx hx => ?_) ?_
        · go_simp
          try rfl
        go_simp
        refine hK1 _ ?_
        clear hK1 K1
        refine wpPre_e rfl rfl (fun K1 hK1 => ?_)
        apply Exists.intro
        refine And.intro (fun wx hx => ?_) ?_
        · go_simp
          try rfl
        go_simp
        refine hK1 _ ?_
        clear hK1 K1
        refine wpPre_e rfl rfl (fun K1 hK1 => ?_)
        apply Exists.intro
        refine And.intro (fun wx hx => ?_) ?_
        · have e0 := below_fact hx rfl kc
          go_simp
          try rfl
        go_simp
        refine hK1 _ ?_
        clear hK1 K1
        refine wpPre_e rfl rfl (fun K1 hK1 => ?_)
        apply Exists.intro
        refine And.intro (fun wx hx => ?_) ?_
        · go_simp
          try rfl
        go_simp
        refine hK1 _ ?_
        clear hK1 K1
        refine wpPre_e rfl rfl (fun K1 hK1 => ?_)
        apply Exists.intro
        refine And.intro (fun wx hx => ?_) ?_
        · go_simp
          try rfl
        go_simp
        refine hK1 _ ?_
        clear hK1 K1
        refine wpPre_e rfl rfl (fun K1 hK1 => ?_)
        apply Exists.intro
        refine And.intro (fun wx hx => ?_) ?_
        · go_simp
          try rfl
        go_simp
        refine hK1 _ ?_
        clear hK1 K1
        refine wpPre_e rfl rfl (fun K1 hK1 => ?_)
        apply Exists.intro
        refine And.intro (fun wx hx => ?_) ?_
        · go_simp
          try rfl
        go_simp
        refine hK1 _ ?_
        clear hK1 K1
        refine wpPre_e rfl rfl (fun K1 hK1 => ?_)
        apply Exists.intro
        refine And.intro (fun wx hx => ?_) ?_
        · have e0 := below_fact hx rfl r0
          go_simp
          try rfl
        go_simp
        refine hK1 _ ?_
        clear hK1 K1
        refine wpPre_e rfl rfl (fun K1 hK1 => ?_)
        apply Exists.intro
        refine And.intro (fun wx hx => ?_) ?_
        · go_simp
          try rfl
        go_simp
        refine hK1 _ ?_
        clear hK1 K1
        refine wpPre_e rfl rfl (fun K1 hK1 => ?_)
        apply Exists.intro
        refine And.intro (fun wx hx => ?_) ?_
        · go_simp
          try rfl
        go_simp
        refine hK1 _ ?_
        clear hK1 K1
        refine wpPre_e rfl rfl (fun K1 hK1 => ?_)
        apply Exists.intro
        refine And.intro (fun wx hx => ?_) ?_
        · go_simp
          try rfl
        go_simp
        refine hK1 _ ?_
        clear hK1 K1
        refine wpPre_e rfl rfl (fun K1 hK1 => ?_)
        apply Exists.intro
        refine And.intro (fun wx hx => ?_) ?_
        · have e0 := below_fact hx rfl a2
          go_simp
          try rfl
        go_simp
        refine hK1 _ ?_
        clear hK1 K1
        refine wpPre_e rfl rfl (fun K1 hK1 => ?_)
        apply Exists.intro
        refine And.intro (fun wx hx => ?_) ?_
        · go_simp
          try rfl
        go_simp
        refine hK1 _ ?_
        clear hK1 K1
        refine wpPre_e rfl rfl (fun K1 hK1 => ?_)
        apply Exists.intro
        refine And.intro (fun wx hx => ?_) ?_
        · go_simp
          try rfl
        go_simp
        refine hK1 _ ?_
        clear hK1 K1
        refine wpPre_e rfl rfl (fun K1 hK1 => ?_)
        apply Exists.intro
        refine And.intro (fun wx hx => ?_) ?_
        · go_simp
          try rfl
        go_simp
        refine hK1 _ ?_
        clear hK1 K1
        refine wpPre_nil ?_
        refine wpTr_done ?_
        rw [HMe.out]
        clear kc r0 rl a2 gl hku hrem hwm hk0 hmi
        obtain ⟨wq, hwq⟩ : ∃ V, V = wr.drew := ⟨_, rfl⟩
        rw [← hwq]
        have HIq : Hid (RkI wq (fun k => C k ∨ w.heap.size ≤ k) rb Ri) := by show RkI _ _ _ _; rw [hwq]; exact HIk.out.drew
        have HBq : Hid (But C w wq) := by show But _ _ _; rw [hwq]; exact HBw.out.drew
        have HAq : Hid (At wq Ri rb g i f) := by show At _ _ _ _ _ _; rw [hwq]; exact HIk.out.moveAt HIs.out HAb.out HAt.out (But.refl _ _).drew
        have HFq : Hid (RfI wq (fun k => C k ∨ w.heap.size ≤ k) f) := by show RfI _ _ _; rw [hwq]; exact HF.out.kept (fun _ _ => rfl) (fun k hk => (HF.out.blk hk).1)
        clear HF hwq
        have HF := HFq
        have HMv : Hid (∀ wx, But f.blk wq wx → At wx Ri rb g i f) := fun wx hx => HIq.out.moveAt HIs.out HAb.out HAq.out hx
        have hcc : f.lo.length ≤ f.lc := (own_byts HF.out.l (S := fun _ => True) (fun _ _ => trivial) (fun z hz => HF.out.by_ z (List.mem_append_right _ hz)) (by omega)).nc
        have hnc : (m : Int) ≤ (f.lc : Int) := by omega
        have HS : Hid (wq.drew.ownsRow 0 5 1 (.slice f.sp f.su.length f.sc) f.su.length (f.su.map (Value.int .u8))) := HF.out.s
        have HSrc : Hid (Src wq.drew f.lp m f.lc 1 ((f.lo.take m).map (Value.int .u8))) := Src.take (HF.out.l.src rfl) m hml
        go_upto_region 7 with fail
        refine wp_region_calmE 30 (fun wx => But f.blk wq wx) [(0, true), (1, true), (2, true), (3, false), (4, true), (5, true), (6, true), (7, true), (8, false), (9, true), (10, true), (11, true), (12, false), (13, true), (14, true), (15, true), (16, false), (17, true), (18, true), (19, true), (20, false), (21, true), (22, true)] (.one 23 true [(24, true), (25, true)] (.one 26 false [] .done)) (by kernel_rfl) (by kernel_rfl) (But.refl _ _).drew ?_
        refine wpPre_e rfl rfl (fun K1 hK1 => ?_)
        apply Exists.intro
        refine And.intro (fun wx hx => ?_) ?_
        · go_simp
          try rfl
        go_simp
        refine hK1 _ ?_
        clear hK1 K1
        refine wpPre_e rfl rfl (fun K1 hK1 => ?_)
        apply Exists.intro
        refine And.intro (fun wx hx => ?_) ?_
        · go_simp
          try rfl
        go_simp
        refine hK1 _ ?_
        clear hK1 K1
        refine wpPre_e rfl rfl (fun K1 hK1 => ?_)
        apply Exists.intro
        refine And.intro (fun wx hx => ?_) ?_
        · go_simp
          try rfl
        go_simp
        refine hK1 _ ?_
        clear hK1 K1
        refine wpPre_e rfl rfl (fun K1 hK1 => ?_)
        apply Exists.intro
        refine And.intro (fun wx hx => ?_) ?_
        · have e0 := (HMv.out wx (hx.resolve_left (by simp))).r0
          go_simp
          try rfl
        go_simp
        refine hK1 _ ?_
        clear hK1 K1
        refine wpPre_e rfl rfl (fun K1 hK1 => ?_)
        apply Exists.intro
        refine And.intro (fun wx hx => ?_) ?_
        · go_simp
          try rfl
        go_simp
        refine hK1 _ ?_
        clear hK1 K1
        refine wpPre_e rfl rfl (fun K1 hK1 => ?_)
        apply Exists.intro
        refine And.intro (fun wx hx => ?_) ?_
        · go_simp
          try rfl
        go_simp
        refine hK1 _ ?_
        clear hK1 K1
        refine wpPre_e rfl rfl (fun K1 hK1 => ?_)
        apply Exists.intro
        refine And.intro (fun wx hx => ?_) ?_
        · go_simp
          try rfl
        go_simp
        refine hK1 _ ?_
        clear hK1 K1
        refine wpPre_e rfl rfl (fun K1 hK1 => ?_)
        apply Exists.intro
        refine And.intro (fun wx hx => ?_) ?_
        · go_simp
          try rfl
        go_simp
        refine hK1 _ ?_
        clear hK1 K1
        refine wpPre_e rfl rfl (fun K1 hK1 => ?_)
        apply Exists.intro
        refine And.intro (fun wx hx => ?_) ?_
        · have e0 := (HMv.out wx (hx.resolve_left (by simp))).r0
          go_simp
          try rfl
        go_simp
        refine hK1 _ ?_
        clear hK1 K1
        refine wpPre_e rfl rfl (fun K1 hK1 => ?_)
        apply Exists.intro
        refine And.intro (fun wx hx => ?_) ?_
        · go_simp
          try rfl
        go_simp
        refine hK1 _ ?_
        clear hK1 K1
        refine wpPre_e rfl rfl (fun K1 hK1 => ?_)
        apply Exists.intro
        refine And.intro (fun wx hx => ?_) ?_
        · go_simp
          try rfl
        go_simp
        refine hK1 _ ?_
        clear hK1 K1
        refine wpPre_e rfl rfl (fun K1 hK1 => ?_)
        apply Exists.intro
        refine And.intro (fun wx hx => ?_) ?_
        · go_simp
          try rfl
        go_simp
        refine hK1 _ ?_
        clear hK1 K1
        refine wpPre_e rfl rfl (fun K1 hK1 => ?_)
        apply Exists.intro
        refine And.intro (fun wx hx => ?_) ?_
        · have e0 := (HMv.out wx (hx.resolve_left (by simp))).a1
          go_simp
          try rfl
        go_simp
        refine hK1 _ ?_
        clear hK1 K1
        refine wpPre_e rfl rfl (fun K1 hK1 => ?_)
        apply Exists.intro
        refine And.intro (fun wx hx => ?_) ?_
        · go_simp
          try rfl
        go_simp
        refine hK1 _ ?_
        clear hK1 K1
        refine wpPre_e rfl rfl (fun K1 hK1 => ?_)
        apply Exists.intro
        refine And.intro (fun wx hx => ?_) ?_
        · go_simp
          try rfl
        go_simp
        refine hK1 _ ?_
        clear hK1 K1
        refine wpPre_e rfl rfl (fun K1 hK1 => ?_)
        apply Exists.intro
        refine And.intro (fun wx hx => ?_) ?_
        · go_simp
          try rfl
        go_simp
        refine hK1 _ ?_
        clear hK1 K1
        refine wpPre_e rfl rfl (fun K1 hK1 => ?_)
        apply Exists.intro
        refine And.intro (fun wx hx => ?_) ?_
        · have e0 := (HMv.out wx (hx.resolve_left (by simp))).r0
          go_simp
          try rfl
        go_simp
        refine hK1 _ ?_
        clear hK1 K1
        refine wpPre_e rfl rfl (fun K1 hK1 => ?_)
        apply Exists.intro
        refine And.intro (fun wx hx => ?_) ?_
        · go_simp
          try rfl
        go_simp
        refine hK1 _ ?_
        clear hK1 K1
        refine wpPre_e rfl rfl (fun K1 hK1 => ?_)
        apply Exists.intro
        refine And.intro (fun wx hx => ?_) ?_
        · go_simp
          try rfl
        go_simp
        refine hK1 _ ?_
        clear hK1 K1
        refine wpPre_e rfl rfl (fun K1 hK1 => ?_)
        apply Exists.intro
        refine And.intro (fun wx hx => ?_) ?_
        · go_simp
          try rfl
        go_simp
        refine hK1 _ ?_
        clear hK1 K1
        refine wpPre_e rfl rfl (fun K1 hK1 => ?_)
        apply Exists.intro
        refine And.intro (fun wx hx => ?_) ?_
        · have e0 := (HMv.out wx (hx.resolve_left (by simp))).a2
          go_simp
          try rfl
        go_simp
        refine hK1 _ ?_
        clear hK1 K1
        refine wpPre_e rfl rfl (fun K1 hK1 => ?_)
        apply Exists.intro
        refine And.intro (fun wx hx => ?_) ?_
        · go_simp
          try rfl
        go_simp
        refine hK1 _ ?_
        clear hK1 K1
        refine wpPre_e rfl rfl (fun K1 hK1 => ?_)
        apply Exists.intro
        refine And.intro (fun wx hx => ?_) ?_
        · go_simp
          try rfl
        go_simp
        refine hK1 _ ?_
        clear hK1 K1
        refine wpPre_nil ?_
        refine wpTr_e rfl (fun K1 hK1 => ?_)
        refine step_appS rfl (.tmp 50) (.tmp 60) 31 5 i0 _ 1 1 HKd.out rfl 0 (.slice f.sp f.su.length f.sc) f.su.length _ rfl HS.out f.lp m f.lc _ rfl HSrc.out (one_u8 (f.lo.take m)) (by omega) (by omega) (Nat.zero_le _) ?_
        intro v3 w3 ho hg hn
        obtain ⟨p3, c3, hv3⟩ := ownsRow_slice ho
        subst hv3
        have HO := hid ho
        have HG := hid hg
        have HN := hid hn
        clear ho hg hn
        have HB3 : Hid (But f.blk wq w3) := (But.refl f.blk wq).drew.trans (but_grown HG.out fun k e => .inl e)
        have HA3 := hid (HMv.out w3 HB3.out)
        have e0 := HA3.out.a1
        have e1 := HA3.out.gf (i * 3 + 1)
        have e2 := HA3.out.gl
        go_simp
        refine hK1 _ _ (fun _ => HB3.out) ?_
        clear hK1 K1
        refine wpPre_e rfl rfl (fun K1 hK1 => ?_)
        apply Exists.intro
        refine And.intro (fun wx hx => ?_) ?_
        · go_simp
          try rfl
        go_simp
        refine hK1 _ ?_
        clear hK1 K1
        refine wpPre_e rfl rfl (fun K1 hK1 => ?_)
        apply Exists.intro
        refine And.intro (fun wx hx => ?_) ?_
        · go_simp
          try rfl
        go_simp
        refine hK1 _ ?_
        clear hK1 K1
        refine wpPre_nil ?_
        refine wpTr_e rfl (fun K1 hK1 => ?_)
        go_simp
        refine hK1 _ _ (fun h => by cases h) ?_
        clear hK1 K1
        refine wpPre_nil ?_
        refine wpTr_done ?_
        have HA5 := HA3
        obtain ⟨r5, r5l, _, _, a5, g5, g5l⟩ := HA5.out
        have g52 := g5 (i * 3 + 2)
        clear g5 e0 e1 e2
        have HE : Hid (RkI ((w3.setCell ⟨g, i * 3 + 1, none⟩ (.slice p3 (f.su.length + m) c3)).setCell ⟨g, i * 3 + 2, none⟩ (.slice none 0 0)) (fun k => C k ∨ w.heap.size ≤ k) rb { Ri with fs := Ri.fs.set i ⟨f.name, p3, c3, f.su ++ f.lo.take m, none, 0, []⟩ } ∧ But C w ((w3.setCell ⟨g, i * 3 + 1, none⟩ (.slice p3 (f.su.length + m) c3)).setCell ⟨g, i * 3 + 2, none⟩ (.slice none 0 0))) := by
          have htl : (f.lo.take m).length = m := by simp; omega
          have hln : (f.su ++ f.lo.take m).length = f.su.length + m := by rw [List.length_append, htl]
          have hown : OwnBy 0 w3 (.slice p3 (f.su.length + m) c3) (f.su ++ f.lo.take m) := by
            have h := OwnBy.app (zs := f.su) (ys := f.lo.take m) HF.out.s (by rw [htl]; exact HO.out)
            exact h
          have h := HIq.out.put2X (f' := ⟨f.name, p3, c3, f.su ++ f.lo.take m, none, 0, []⟩) HIs.out HAb.out rfl HB3.out (by show OwnBy 0 w3 (.slice p3 (f.su ++ f.lo.take m).length c3) _; rw [hln]; exact hown) (World.ownsRow_nil _ _ _ _) ?_ ?_ ?_ ?_
          · simp only [hln] at h
            refine ⟨h.1.mono fun k hk _ => ?_, HBq.out.cc h.2⟩
            rcases hk with hk | hk
            · exact hk
            · exact .inr (Nat.le_trans HBq.out.size hk)
          · rintro k (hk | hk)
            · have hk' : (Value.slice p3 (f.su.length + m) c3).ownBlock = some k := by
                have : (Value.slice p3 (f.su ++ f.lo.take m).length c3).ownBlock = some k := hk
                rw [hln] at this
                exact this
              rcases HN.out with h1 | h1
              · exact .inl (.inl (h1.symm.trans hk'))
              · exact .inr (h1 k hk')
            · cases hk
          · intro k _ hk
            cases hk
          · show (f.su ++ f.lo.take m).length + ([] : List Int).length ≤ 65536
            rw [hln]
            simp
            omega
          · intro z hz
            have hz' : z ∈ f.su ++ f.lo.take m := by simpa using hz
            rcases List.mem_append.1 hz' with h1 | h1
            · exact HF.out.by_ z (List.mem_append_left _ h1)
            · exact HF.out.by_ z (List.mem_append_right _ (List.mem_of_mem_take h1))
        have HKs2 : Hid (RsK R K (i + 1) { Ri with fs := Ri.fs.set i ⟨f.name, p3, c3, f.su ++ f.lo.take m, none, 0, []⟩ }) := HKs.out.step HIs.out.1 HMk.out (by unfold RF.key; simp)
        go_wp2
        go_roundw
        case rel => exact ⟨i + 1, _, by omega, by go_num, HKs2.out, HE.out.1, HE.out.2⟩
        case measure => simp [intOf]; omega
    · have hlt' : ¬ (i : Int) < (Ri.fs.length : Int) := by have := HLn.out; omega
      obtain rfl : i = R.fs.length := by omega
      have HX := hid (HIk.out.bx.set 1 (.bool false))
      have HBt : Hid (But (fun k => k = rb) wr (wr.setCell ⟨rb, 1, none⟩ (.bool false))) := (But.one _ _).setAt 1 _
      go_wp2
      go_end0
      refine ⟨rfl, Ri, HKs.out, HIk.out.rig HBt.out (by simpa using HX.out) HIk.out.bl HIk.out.ba HIk.out.bf, HBw.out.cc (HBt.out.mono fun k _ e => by have e' : k = rb := e; subst e'; exact HIk.out.cb)⟩
end Go.Proofs.YtebiidfdokhpaabGreatDoor
