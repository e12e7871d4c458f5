import Derived.Test.YtjkfihngkfphfaaDoorEcE
namespace Go.Proofs.YtjkfihngkfphfaaDoor
open Go.RowKit
set_option maxRecDepth 8000
/-- a file of the reference as it is told -/
def tellO (o : RO) (p : Option Addr) (c : Nat) : FA := ⟨o.name, p, o.zs.length, c, fun j => o.zs.getD j 0, (o.sn : Int)⟩
theorem tellO_key (o : RO) (p : Option Addr) (c : Nat) : (tellO o p c).key = o.key := by
  have h : (tellO o p c).zs = o.zs := by
    show (List.range o.zs.length).map (fun j => o.zs.getD j 0) = o.zs
    apply List.ext_getElem?
    intro j
    by_cases h : j < o.zs.length
    · simp [List.getElem?_range h, List.getD_eq_getElem?_getD, List.getElem?_eq_getElem h]
    · rw [List.getElem?_eq_none (by simp; omega), List.getElem?_eq_none (by omega)]
  unfold FA.key RO.key
  rw [h]
  rfl
theorem RO.zs_len (o : RO) : o.zs.length = o.sn + o.ln := by simp [RO.zs]
def RfilesQ (A : LT RO) (w : World) (e : Ending) (w' : World) : Prop :=
  ∃ u : LT FA, e = .returned (.slice u.p u.n u.c) ∧ LT.In elF w' (fun k => w.heap.size ≤ k) u ∧ u.n = A.n ∧ (∀ j, j < A.n → (u.item j).key = (A.item j).key) ∧ Below w.heap.size w w'
set_option maxHeartbeats 8000000 in
theorem rfiles_any (A : LT RO) (w : World) (S : Nat → Prop) (rb : Nat) (hr : w.cell? ⟨rb, 0, none⟩ = some (.slice A.p A.n A.c)) (hA : LT.In elO w S A) (hn : A.n ≤ 100000) :
    Calls Tryd.prog 8 #[.pointer (some ⟨rb, 0, none⟩)] w fun e w' => RfilesQ A w e w' := by
  obtain ⟨i0, Kd⟩ := kindFl
  obtain ⟨i1, Kb⟩ := kindB
  have HKd := hid Kd
  have HKb := hid Kb
  have HA := hid hA
  have HR := hid hr
  clear hA Kd Kb hr
  go_enter Tryd.func8, Tryd.ntmps8
  go_wp2_with fail
  go_loopw [3, 4] (fun v x wr => ∃ (i : Nat) (g : Nat → FA), i ≤ A.n ∧ x = .int .i64 (i : Int) ∧ OwnL elF w.heap.size wr v i g ∧ (∀ q, q < i → (g q).key = (A.item q).key) ∧ Below w.heap.size w wr) (fun _ x _ => A.n - (intOf x).toNat)
  case atStart => exact ⟨0, fun _ => ⟨⟨#[]⟩, none, 0, 0, fun _ => 0, 0⟩, Nat.zero_le _, rfl, ⟨World.ownsRow_nil _ _ _ _, fun j hj => absurd hj (by omega)⟩, fun q hq => absurd hq (by omega), Below.refl _ _⟩
  case round =>
    obtain ⟨i, g, hi, rfl, hO, hg, hbw⟩ := hrel
    have HO := hid hO
    have HG := hid hg
    have HBw := hid hbw
    clear hO hg hbw
    have r0 : wr.cell? ⟨rb, 0, none⟩ = some (.slice A.p A.n A.c) := (World.cell?_of_block (a := ⟨rb, 0, none⟩) (HBw.out.block rb (cellLt HR.out))).trans HR.out
    by_cases hlt : i < A.n
    · have hlt' : (i : Int) < (A.n : Int) := by omega
      obtain ⟨bb, o, hp, _, hbb, hat⟩ := HA.out.at_ (by omega)
      rw [hp] at r0
      obtain ⟨f, hf⟩ : ∃ f, f = A.item i := ⟨_, rfl⟩
      have hce : ∀ q u, (elO.cells f)[q]? = some u → wr.cell? ⟨bb, o + i * 3 + q, none⟩ = some u := fun q u hu => (World.cell?_of_block (a := ⟨bb, o + i * 3 + q, none⟩) (HBw.out.block bb hbb)).trans (hat i hlt q u (by rw [← hf]; exact hu))
      have a0 : wr.cell? ⟨bb, o + i * 3, none⟩ = some (.string f.name) := hce 0 _ rfl
      have a1 : wr.cell? ⟨bb, o + i * 3 + 1, none⟩ = some (.slice f.sp f.sn f.sc) := hce 1 _ rfl
      have a2 : wr.cell? ⟨bb, o + i * 3 + 2, none⟩ = some (.slice f.lp f.ln f.lc) := hce 2 _ rfl
      have HFi : Hid (elO.In w S f) := by show elO.In w S f; rw [hf]; exact HA.out.each i hlt
      have HFe := hid hf
      clear hce hat hf
      obtain ⟨V1, hV1⟩ : ∃ V, V = wr.alloc (.cells #[.string f.name, .slice f.sp f.sn f.sc, .slice f.lp f.ln f.lc] 69) := ⟨_, rfl⟩
      have HB1 : Hid (Below wr.heap.size wr V1) := by show Below _ _ _; rw [hV1]; exact (Below.refl _ _).alloc (Nat.le_refl _) _
      have HX1 : Hid (Box V1 wr.heap.size #[.string f.name, .slice f.sp f.sn f.sc, .slice f.lp f.ln f.lc] 69) := by show Box _ _ _ _; rw [hV1]; exact Box.new _ _ _
      have HV1 := hid hV1
      have HBv : Hid (Below w.heap.size w V1) := HBw.out.trans (HB1.out.mono HBw.out.size)
      clear hV1
      go_upto_region 6 with fail
      rw [← HV1.out]
      clear a0 a1 a2 r0
      have f0 := HX1.out.cell 0
      have f1 := HX1.out.cell 1
      have f2 := HX1.out.cell 2
      have fl := HX1.out.lt
      simp at f0 f1 f2
      have HFr : Hid (Calls Tryd.prog 17 #[.slice f.sp f.sn f.sc, .int .i64 0, .int .i64 (f.sn : Int)] V1 fun e w' => ∃ (p' : Option Addr) (c' : Nat), e = .returned (.slice p' f.sn c') ∧ OwnBy V1.heap.size w' (.slice p' f.sn c') ((List.range f.sn).map f.sf) ∧ Below V1.heap.size V1 w') := by
        have hle := HFi.out.2.2.2
        have h := rfresh_any f.sp f.sn f.sc 0 f.sn f.sf V1 S (HFi.out.2.1.kept HBv.out.size fun b _ hl => HBv.out.block b hl) (Nat.zero_le _) (Nat.le_refl _) (by omega)
        simp only [Nat.sub_zero, Nat.zero_add] at h
        exact h
      go_wp2_with fail
      refine HFr.out.mono ?_
      rintro e w2 ⟨p2, c2, rfl, hr2, hb2⟩
      have HR2 := hid hr2
      have HB2 : Hid (Below w.heap.size w w2) := HBv.out.trans (hb2.mono HBv.out.size)
      have HBs2 : Hid (Below wr.heap.size wr w2) := HB1.out.trans (hb2.mono HB1.out.size)
      have HX2 := hid (HX1.out.below hb2)
      have HBV2 := hid hb2
      clear f0 f1 f2 fl hr2 hb2
      have f0 := HX2.out.cell 0
      have f1 := HX2.out.cell 1
      have f2 := HX2.out.cell 2
      have fl := HX2.out.lt
      simp at f0 f1 f2
      have hsz2 : V1.heap.size ≤ w2.heap.size := HBV2.out.size
      have hro : w2.ownsRow V1.heap.size 5 1 (.slice p2 f.sn c2) f.sn (((List.range f.sn).map f.sf).map (Value.int .u8)) := by
        have h := HR2.out
        unfold OwnBy at h
        simpa using h
      have hls : Src w2 f.lp f.ln f.lc 1 (((List.range f.ln).map f.lf).map (Value.int .u8)) := by
        have h := (HFi.out.2.2.1.kept HB2.out.size fun b _ hl => HB2.out.block b hl).src
        simpa [List.map_map, Function.comp_def] using h
      have hle := HFi.out.2.2.2
      go_wp2_with (at_builtin; refine wpList_appS rfl (.tmp 29) (.tmp 31) 33 5 i1 _ 1 1 HKb.out rfl V1.heap.size (.slice p2 f.sn c2) f.sn _ rfl hro f.lp f.ln f.lc _ rfl hls (one_u8 _) (by omega) (by omega) hsz2 ?_)
      intro v3 w3 ho3 hg3 hn3
      have HR3 : Hid (OwnBy V1.heap.size w3 v3 f.zs) := by
        show World.ownsRow _ _ _ _ _ _ _
        rw [RO.zs_len]
        simpa [RO.zs] using ho3
      have HBV3 : Hid (Below V1.heap.size V1 w3) := HBV2.out.grown hg3 hsz2 (fun k hk => (hro.lt k hk).1)
      obtain ⟨p3, c3, hv3⟩ := ownsRow_slice HR3.out
      subst hv3
      have HX3 := hid (HX1.out.below HBV3.out)
      clear ho3 hg3 hn3 hro hls f0 f1 f2 fl
      have f0 := HX3.out.cell 0
      have f1 := HX3.out.cell 1
      have f2 := HX3.out.cell 2
      have fl := HX3.out.lt
      simp at f0 f1 f2
      have hal : Below w3.heap.size w3 (w3.alloc (.cells #[.string f.name, .slice p3 f.zs.length c3, .int .i64 (f.sn : Int)] 35)) := (Below.refl _ _).alloc (Nat.le_refl _) _
      have HB3 : Hid (Below wr.heap.size wr w3) := HB1.out.trans (HBV3.out.mono HB1.out.size)
      have hO2 := (HO.out.keep HB3.out.size (fun k _ hl => HB3.out.block k hl)).keep hal.size (fun k _ hl => hal.block k hl)
      have hu2 : elF.In (w3.alloc (.cells #[.string f.name, .slice p3 f.zs.length c3, .int .i64 (f.sn : Int)] 35)) (fun b => w.heap.size ≤ b ∧ u3.ownBlock ≠ some b) (tellO f p3 c3) := by
        have h1 := HBv.out.size
        have h2 := HB1.out.size
        have hz := RO.zs_len f
        refine ⟨HFi.out.1, ?_, by show (-9223372036854775808 : Int) ≤ (f.sn : Int) ∧ (f.sn : Int) ≤ 9223372036854775807; omega⟩
        have hr4 : OwnBy V1.heap.size (w3.alloc (.cells #[.string f.name, .slice p3 f.zs.length c3, .int .i64 (f.sn : Int)] 35)) (.slice p3 f.zs.length c3) f.zs := ownsRow_keep HR3.out fun g _ hl => hal.block g hl
        refine own_byts hr4 (fun g hg => ?_) (fun z hz => ?_) (by omega)
        · have hge := (hr4.lt g hg).1
          refine ⟨by omega, fun e => ?_⟩
          have := (HO.out.own.lt g e).2
          omega
        · rcases List.mem_append.1 hz with hz | hz
          · obtain ⟨j, hj, rfl⟩ := List.mem_map.1 hz
            have := HFi.out.2.1.fit j (List.mem_range.1 hj)
            omega
          · obtain ⟨j, hj, rfl⟩ := List.mem_map.1 hz
            have := HFi.out.2.2.1.fit j (List.mem_range.1 hj)
            omega
      have hnw : ∀ j u', (elF.cells (tellO f p3 c3))[j]? = some u' → (w3.alloc (.cells #[.string f.name, .slice p3 f.zs.length c3, .int .i64 (f.sn : Int)] 35)).cell? ((⟨w3.heap.size, 0, none⟩ : Addr).add j) = some u' := fun j u' hu => by
        rw [Go.WideShapes.add_plain, (Box.new w3 #[.string f.name, .slice p3 f.zs.length c3, .int .i64 (f.sn : Int)] 35).cell]
        rw [show 0 + j = j by omega]
        simpa [elF, tellO] using hu
      have hbA : Below w.heap.size w (w3.alloc (.cells #[.string f.name, .slice p3 f.zs.length c3, .int .i64 (f.sn : Int)] 35)) := (HBw.out.trans (HB3.out.mono HBw.out.size)).trans (hal.mono (Nat.le_trans HBw.out.size HB3.out.size))
      have HP := hid (And.intro hO2 (And.intro hu2 (And.intro hnw hbA)))
      clear hal hO2 hu2 hnw hbA hsz2 hle
      go_upto_region 8 with fail
      go_wp2_with (at_builtin; refine wpList_app rfl (.tmp 33) (.tmp 41) 22 35 i0 _ 3 48 HKd.out rfl w.heap.size u3 i _ rfl HP.out.1.own ⟨w3.heap.size, 0, none⟩ 1 1 (elF.cells (tellO f p3 c3)) rfl rfl HP.out.2.2.1 (elF.one _) (by omega) (by omega) HP.out.2.2.2.size ?_)
      intro v5 w5 ho5 hg5 hn5
      have HO5 := hid (HP.out.1.push HP.out.2.1 ho5 hg5 hn5)
      have HB5 : Hid (Below w.heap.size w w5) := HP.out.2.2.2.grown hg5 HP.out.2.2.2.size (fun k hk => (HP.out.1.own.lt k hk).1)
      have HG5 : Hid (∀ q, q < i + 1 → (if q < i then g q else tellO f p3 c3).key = (A.item q).key) := by
        intro q hq
        by_cases hqi : q < i
        · rw [if_pos hqi]; exact HG.out q hqi
        · rw [if_neg hqi]
          obtain rfl : q = i := by omega
          rw [tellO_key, HFe.out]
      clear ho5 hg5 hn5 HP
      go_wp2
      go_roundw
      case rel => exact ⟨i + 1, _, by omega, by go_num, HO5.out, HG5.out, HB5.out⟩
      case measure => simp [intOf]; omega
    · have hlt' : ¬ (i : Int) < (A.n : Int) := by omega
      obtain rfl : i = A.n := by omega
      obtain ⟨p3, c3, hv3, hL3⟩ := HO.out.in_ (by omega)
      subst hv3
      have HL3 := hid hL3
      clear hL3
      go_wp2
      exact bodyPost_ret (v := .slice p3 A.n c3) (by simp [results, Tryd.results8, go_sem]) rfl ⟨⟨p3, A.n, c3, g⟩, rfl, HL3.out, rfl, HG.out, HBw.out⟩
end Go.Proofs.YtjkfihngkfphfaaDoor
