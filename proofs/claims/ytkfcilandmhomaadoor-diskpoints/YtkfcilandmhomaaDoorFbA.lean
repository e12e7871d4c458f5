import Derived.Test.YtkfcilandmhomaaDoorEfK
import Derived.Test.YtkfcilandmhomaaDoorPack30
namespace Go.Proofs.YtkfcilandmhomaaDoor
open Go.RowKit
set_option maxRecDepth 8000
theorem step_updS {E : Prop} {w : World} {ops : Array Oper} {o : Oper} {a : Act} {K : Act → World → Prop} {Q : Exit → Act → World → Prop} (hg : o.guard = none) (m x v : Operand) (hop : o.op = Op.mapUpdate 59 m x v) {b : Nat} {Es : List (ByteArray × Value)} {s : ByteArray} {u : Value} (hm : a.eval m = .map (some b)) (hx : a.eval x = labV s) (hv : a.eval v = u) (h : MpI w b Es) (hs : Nm s) (hn : lk Es s = some u)
    (hK : ∀ w', MpI w' b Es → But (fun k => k = b) w w' → K (a.put o.dst undef) w') :
    if Region.wanted o (yielded ops a.tmps) = true then Oper.wp Tryd.prog o a w K Q else E := by
  have hw : Region.wanted o (yielded ops a.tmps) = true := by simp [Region.wanted, hg]
  rw [if_pos hw]
  obtain ⟨ob, hrun, h1⟩ := run_updSame h hs u hn
  unfold Oper.wp
  simp [execOp, hop, hm, hx, hv, hrun, Result.andThen, Oper.upon]
  exact hK _ h1 (But.block1 _)
theorem DkI.mpx {w w' : World} {C : Nat → Prop} {db : Nat} {D : DK} (h : DkI w C db D) (hm : MpI w' D.mb D.ents) (hb : But (fun k => k = D.mb) w w') : DkI w' C db D :=
  ⟨h.bx.kept (hb.block _ h.bx.lt h.ne), hm, h.cb, h.cm, h.ne, fun f hf => (h.each f hf).kept (fun k hk => hb.block k ((h.each f hf).blk hk).2 (h.low f hf k hk).2) (fun _ hk => ((h.each f hf).blk hk).1), h.low, h.apart, h.n, h.bu, h.ba, h.bc⟩
theorem DkI.add {w w' : World} {C : Nat → Prop} {db : Nat} {D : DK} {f : FT} (h : DkI w C db D) (hf : FtI w C f) (hb : ∀ k, f.blk k → k ≠ db ∧ k ≠ D.mb ∧ ∀ g ∈ D.fs, ¬ g.blk k) (hn : D.fs.length < 400)
    (hm : MpI w' D.mb (D.ents ++ [(f.name, .pointer (some ⟨f.fb, 0, none⟩))])) (hbt : But (fun k => k = D.mb) w w') : DkI w' C db { D with fs := D.fs ++ [f] } := by
  have hall : ∀ g ∈ D.fs ++ [f], FtI w C g ∧ ∀ k, g.blk k → k ≠ db ∧ k ≠ D.mb := fun g hg => by
    rcases List.mem_append.1 hg with hg | hg
    · exact ⟨h.each g hg, h.low g hg⟩
    · rw [List.mem_singleton.1 hg]
      exact ⟨hf, fun k hk => ⟨(hb k hk).1, (hb k hk).2.1⟩⟩
  refine ⟨h.bx.kept (hbt.block _ h.bx.lt h.ne), ?_, h.cb, h.cm, h.ne, fun g hg => (hall g hg).1.kept (fun k hk => hbt.block k ((hall g hg).1.blk hk).2 ((hall g hg).2 k hk).2) (fun k hk => ((hall g hg).1.blk hk).1), fun g hg => (hall g hg).2, ?_, ?_, h.bu, h.ba, h.bc⟩
  · have e : ({ D with fs := D.fs ++ [f] } : DK).ents = D.ents ++ [(f.name, .pointer (some ⟨f.fb, 0, none⟩))] := by
      unfold DK.ents
      simp
    rw [e]
    exact hm
  · show (D.fs ++ [f]).Pairwise _
    rw [List.pairwise_append]
    refine ⟨h.apart, by simp, fun a ha b hb2 k hk hbk => ?_⟩
    rw [List.mem_singleton.1 hb2] at hbk
    exact (hb k hbk).2.2 a ha hk
  · show (D.fs ++ [f]).length ≤ 400
    simp
    omega
theorem payN_nn {D : DK} {x : Int} (hu : 0 ≤ D.units ∧ D.units ≤ 9223372036854775807) (hx : 0 ≤ x) : 0 ≤ payN D x := by
  unfold payN
  split
  · exact hx
  · split
    · exact hx
    · exact hu.1
def apM (D : DK) (n : Nat) : Nat := (min (payN D ((n : Int) + 1)) (n : Int)).toNat
/-- behind Append -/
def ApD (D : DK) (s : ByteArray) (zs : List Int) (C : Nat → Prop) (db : Nat) (w : World) (e : Ending) (w' : World) : Prop :=
  (begE D s ≠ 0 ∧ e = .returned (.int .i64 (begE D s)) ∧ Chg (begD D s) C db w w') ∨
  (begE D s = 0 ∧ fnd D s = none ∧ (65536 < zs.length ∨ D.fs.length = 400) ∧ e = .returned (.int .i64 104) ∧ Chg (begD D s) C db w w') ∨
  (begE D s = 0 ∧ (∃ f, fnd D s = some f ∧ 65536 < f.zs.length + zs.length) ∧ e = .returned (.int .i64 104) ∧ Chg (begD D s) C db w w') ∨
  (begE D s = 0 ∧ fnd D s = none ∧ zs.length ≤ 65536 ∧ D.fs.length ≠ 400 ∧ e = .returned (.int .i64 (payE (begD D s) ((zs.length : Int) + 1))) ∧ ∃ f', f'.key = (s, zs.take (apM (begD D s) zs.length), 0) ∧ Chg { (begD D s).pays ((zs.length : Int) + 1) with fs := D.fs ++ [f'] } C db w w') ∨
  (begE D s = 0 ∧ ∃ f, fnd D s = some f ∧ f.zs.length + zs.length ≤ 65536 ∧ e = .returned (.int .i64 (payE (begD D s) ((zs.length : Int) + 1))) ∧ ∃ f', f'.key = (s, f.zs ++ zs.take (apM (begD D s) zs.length), (f.sure : Int)) ∧ Chg (((begD D s).pays ((zs.length : Int) + 1)).upd s f') C db w w')
set_option maxHeartbeats 8000000 in
theorem dappend_any (D : DK) (s : ByteArray) (p : Option Addr) (c : Nat) (zs : List Int) (w : World) (C S : Nat → Prop) (db : Nat) (hD : DkI w C db D) (hO : D.Ok) (hmx : s.size ≤ 140737488355328) (hd : Byts w S p zs.length c (fun j => zs.getD j 0)) (hSC : ∀ b, S b → ¬ C b) (hSl : ∀ b, S b → b < w.heap.size) (hzl : zs.length ≤ 100000000) :
    Calls Tryd.prog 22 #[.pointer (some ⟨db, 0, none⟩), .string s, .slice p zs.length c] w fun e w' => ApD D s zs C db w e w' := by
  obtain ⟨i0, Kd⟩ := kindB
  have HKd := hid Kd
  have HDat := hid hd
  have HSC := hid hSC
  have HSl := hid hSl
  have HRc := hid (dbegin_any D s w C db hD hO hmx)
  have HO1 : Hid ((begD D s).Ok) := hO.beg hD.ba.1 s
  have HN4 : Hid (D.fs.length ≤ 400) := hD.n
  clear hD hO Kd hd hSC hSl
  go_enter Tryd.func22, Tryd.ntmps22
  go_wp2_with fail
  refine HRc.out.mono ?_
  rintro e w2 ⟨t, rfl, ht, hQ⟩
  have HT := hid ht
  have HQ := hid hQ
  clear hQ ht
  rw [labV_at]
  obtain ⟨W3, hW3⟩ : ∃ V, V = w2.alloc (.cells #[.int .u8 (bat t 0), .int .u8 (bat t 1), .int .u8 (bat t 2), .int .u8 (bat t 3), .int .u8 (bat t 4), .int .u8 (bat t 5), .int .u8 (bat t 6), .int .u8 (bat t 7), .int .u8 (bat t 8), .int .u8 (bat t 9), .int .u8 (bat t 10), .int .u8 (bat t 11)] 69) := ⟨_, rfl⟩
  have HBx : Hid (Below w2.heap.size w2 W3) := by show Below _ _ _; rw [hW3]; exact (Below.refl _ _).alloc (Nat.le_refl _) _
  have HY3 : Hid (Box W3 w2.heap.size #[.int .u8 (bat t 0), .int .u8 (bat t 1), .int .u8 (bat t 2), .int .u8 (bat t 3), .int .u8 (bat t 4), .int .u8 (bat t 5), .int .u8 (bat t 6), .int .u8 (bat t 7), .int .u8 (bat t 8), .int .u8 (bat t 9), .int .u8 (bat t 10), .int .u8 (bat t 11)] 69) := by show Box _ _ _ _; rw [hW3]; exact Box.new _ _ _
  have HW3 := hid hW3
  clear hW3
  go_upto_region 2 with fail
  rw [← HW3.out]
  have HCh : Hid (Chg (begD D s) C db w W3) := by
    have h := HQ.out.chg
    exact ⟨h.1.below HBx.out, h.2.trans (But.ofBelow HBx.out)⟩
  by_cases hr : begE D s = 0
  case neg =>
    obtain ⟨q, hq⟩ : ∃ q, q = begE D s := ⟨_, rfl⟩
    rw [← hq] at hr ⊢
    have hr' : (q == 0) = false := by simpa using hr
    have HQe := hid hq
    have HR := hid hr
    clear hr hq
    go_wp2
    exact bodyPost_ret (v := .int .i64 q) (by simp [results, Tryd.results22, go_sem]) rfl (.inl ⟨by rw [← HQe.out]; exact HR.out, by rw [← HQe.out], HCh.out⟩)
  case pos =>
    rw [hr]
    have HR := hid hr
    obtain ⟨hts, hNm⟩ := HT.out hr
    subst hts
    obtain ⟨D1, hD1⟩ : ∃ E, E = begD D t := ⟨_, rfl⟩
    have HD1 := hid hD1
    have HD3 : Hid (DkI W3 C db D1) := by show DkI _ _ _ _; rw [hD1]; exact HQ.out.1.below HBx.out
    have HB3 : Hid (But C w W3) := HCh.out.2
    have HNm := hid hNm
    have HFsD : Hid (D1.fs = D.fs ∧ D1.mb = D.mb) := by rw [hD1]; exact beg_fs D t
    have HM4 : Hid (MpI W3 D1.mb D1.ents) := HD3.out.mp
    have HY0 : Hid (w.heap.size ≤ w2.heap.size) := HQ.out.2.size
    rw [← hD1] at HO1
    have d0 := HD3.out.bx.cell 0
    simp at d0
    have y0 := HY3.out.cell 0
    have y1 := HY3.out.cell 1
    have y2 := HY3.out.cell 2
    have y3 := HY3.out.cell 3
    have y4 := HY3.out.cell 4
    have y5 := HY3.out.cell 5
    have y6 := HY3.out.cell 6
    have y7 := HY3.out.cell 7
    have y8 := HY3.out.cell 8
    have y9 := HY3.out.cell 9
    have y10 := HY3.out.cell 10
    have y11 := HY3.out.cell 11
    have yl := HY3.out.lt
    simp at y0 y1 y2 y3 y4 y5 y6 y7 y8 y9 y10 y11
    clear hNm hD1 hr
    go_upto_region 4 with fail
    cases hf : fnd D1 t with
    | none =>
      have HFnd : Hid (fnd D t = none) := by show fnd D t = none; unfold fnd; rw [← HFsD.out.1]; exact hf
      have hlk : lk D1.ents t = none := by rw [lk_ents, hf]; rfl
      have HLk := hid hlk
      refine wp_region_calmE 30 (fun wx => Below W3.heap.size W3 wx) [(0, true), (1, true), (2, true), (3, false), (4, false), (5, false), (6, true), (7, true), (8, true), (9, true), (10, true)] .done (by kernel_rfl) (by kernel_rfl) (Below.refl _ _).drew ?_
      refine wpPre_e rfl rfl (fun K1 hK1 => ?_)
      apply Exists.intro
      refine And.intro (fun wx hx => ?_) ?_
      · go_simp
        try rfl
      go_simp
      refine hK1 _ ?_
      clear hK1 K1
      refine wpPre_e rfl rfl (fun K1 hK1 => ?_)
      apply Exists.intro
      refine And.intro (fun wx hx => ?_) ?_
      · go_simp
        try rfl
      go_simp
      refine hK1 _ ?_
      clear hK1 K1
      refine wpPre_e rfl rfl (fun K1 hK1 => ?_)
      apply Exists.intro
      refine And.intro (fun wx hx => ?_) ?_
      · go_simp
        try rfl
      go_simp
      refine hK1 _ ?_
      clear hK1 K1
      refine wpPre_e rfl rfl (fun K1 hK1 => ?_)
      apply Exists.intro
      refine And.intro (fun wx hx => ?_) ?_
      · have e0 := below_fact hx rfl d0
        go_simp
        try rfl
      go_simp
      refine hK1 _ ?_
      clear hK1 K1
      refine wpPre_e rfl rfl (fun K1 hK1 => ?_)
      apply Exists.intro
      refine And.intro (fun wx hx => ?_) ?_
      · have e0 := below_fact hx rfl y0
        have e1 := below_fact hx rfl y1
        have e2 := below_fact hx rfl y2
        have e3 := below_fact hx rfl y3
        have e4 := below_fact hx rfl y4
        have e5 := below_fact hx rfl y5
        have e6 := below_fact hx rfl y6
        have e7 := below_fact hx rfl y7
        have e8 := below_fact hx rfl y8
        have e9 := below_fact hx rfl y9
        have e10 := below_fact hx rfl y10
        have e11 := below_fact hx rfl y11
        go_simp
        try rfl
      go_simp
      refine hK1 _ ?_
      clear hK1 K1
      refine wpPre_e rfl rfl (fun K1 hK1 => ?_)
      apply Exists.intro
      refine And.intro (fun wx hx => ?_) ?_
      · have hx2 := hx.resolve_left (by simp)
        have e0 := run_look (HM4.out.kept (hx2.block _ HM4.out.lt)) HNm.out true
        simp only [labV, labC, hlk, Option.getD_none, Option.isSome_none, if_true] at e0
        go_simp
        try rfl
      go_simp
      refine hK1 _ ?_
      clear hK1 K1
      refine wpPre_e rfl rfl (fun K1 hK1 => ?_)
      apply Exists.intro
      refine And.intro (fun wx hx => ?_) ?_
      · go_simp
        try rfl
      go_simp
      refine hK1 _ ?_
      clear hK1 K1
      refine wpPre_e rfl rfl (fun K1 hK1 => ?_)
      apply Exists.intro
      refine And.intro (fun wx hx => ?_) ?_
      · go_simp
        try rfl
      go_simp
      refine hK1 _ ?_
      clear hK1 K1
      refine wpPre_e rfl rfl (fun K1 hK1 => ?_)
      apply Exists.intro
      refine And.intro (fun wx hx => ?_) ?_
      · go_simp
        try rfl
      go_simp
      refine hK1 _ ?_
      clear hK1 K1
      refine wpPre_e rfl rfl (fun K1 hK1 => ?_)
      apply Exists.intro
      refine And.intro (fun wx hx => ?_) ?_
      · go_simp
        try rfl
      go_simp
      refine hK1 _ ?_
      clear hK1 K1
      refine wpPre_e rfl rfl (fun K1 hK1 => ?_)
      apply Exists.intro
      refine And.intro (fun wx hx => ?_) ?_
      · go_simp
        try rfl
      go_simp
      refine hK1 _ ?_
      clear hK1 K1
      refine wpPre_nil ?_
      refine wpTr_done ?_
      clear hlk y0 y1 y2 y3 y4 y5 y6 y7 y8 y9 y10 y11 yl d0 hf
      obtain ⟨W4, hW4⟩ : ∃ V, V = W3.drew := ⟨_, rfl⟩
      rw [← hW4]
      have HD4 : Hid (DkI W4 C db D1) := by show DkI _ _ _ _; rw [hW4]; exact HD3.out.kept fun _ _ _ => rfl
      have HB4 : Hid (But C w W4) := by show But _ _ _; rw [hW4]; exact HB3.out.drew
      have HY4 : Hid (Box W4 w2.heap.size #[.int .u8 (bat t 0), .int .u8 (bat t 1), .int .u8 (bat t 2), .int .u8 (bat t 3), .int .u8 (bat t 4), .int .u8 (bat t 5), .int .u8 (bat t 6), .int .u8 (bat t 7), .int .u8 (bat t 8), .int .u8 (bat t 9), .int .u8 (bat t 10), .int .u8 (bat t 11)] 69) := by show Box _ _ _ _; rw [hW4]; exact HY3.out
      have HM5 : Hid (MpI W4 D1.mb D1.ents) := HD4.out.mp
      clear hW4
      obtain ⟨W5, hW5⟩ : ∃ V, V = W4.alloc (.cells #[.slice none 0 0, .int .i64 0] 76) := ⟨_, rfl⟩
      have HB45 : Hid (Below W4.heap.size W4 W5) := by show Below _ _ _; rw [hW5]; exact (Below.refl _ _).alloc (Nat.le_refl _) _
      have HX5 : Hid (Box W5 W4.heap.size #[.slice none 0 0, .int .i64 0] 76) := by show Box _ _ _ _; rw [hW5]; exact Box.new _ _ _
      have HW5 := hid hW5
      clear hW5
      go_upto_region 7 with fail
      rw [← HW5.out]
      have HD5a : Hid (DkI W5 C db D1) := HD4.out.below HB45.out
      have HB5 : Hid (But C w W5) := HB4.out.trans (But.ofBelow HB45.out)
      have HCh5 : Hid (Chg (begD D t) C db w W5) := by rw [← HD1.out]; exact ⟨HD5a.out.mono fun _ hk _ => .inl hk, HB5.out⟩
      have q0 := HX5.out.cell 0
      have ql := HX5.out.lt
      simp at q0
      by_cases h1 : 65536 < zs.length
      · have h1' : (65536 : Int) < (zs.length : Int) := by omega
        go_wp2
        exact bodyPost_ret (v := .int .i64 104) (by simp [results, Tryd.results22, go_sem]) rfl (.inr (.inl ⟨HR.out, HFnd.out, .inl h1, rfl, HCh5.out⟩))
      · have h1' : ¬ (65536 : Int) < (zs.length : Int) := by omega
        have d0 := HD5a.out.bx.cell 0
        simp at d0
        have hml := run_mlen HD5a.out.mp 3
        have hel : D1.ents.length = D1.fs.length := by simp [DK.ents]
        rw [hel] at hml
        by_cases h2 : D1.fs.length = 400
        · have h2' : ((D1.fs.length : Int) == 400) = true := by simp; omega
          have HF4 : Hid (D.fs.length = 400) := by show D.fs.length = 400; rw [← HFsD.out.1]; exact h2
          clear h2 hel
          go_wp2
          exact bodyPost_ret (v := .int .i64 104) (by simp [results, Tryd.results22, go_sem]) rfl (.inr (.inl ⟨HR.out, HFnd.out, .inr HF4.out, rfl, HCh5.out⟩))
        · have h2' : ((D1.fs.length : Int) == 400) = false := by simp; omega
          have HF4 : Hid (D.fs.length ≠ 400) := by show D.fs.length ≠ 400; rw [← HFsD.out.1]; exact h2
          have HLt4 : Hid (D1.fs.length < 400) := by have := HN4.out; have := HFsD.out.1; show D1.fs.length < 400; have h3 := HF4.out; rw [this]; omega
          clear h2 hel
          go_upto_region 9 with fail
          clear hml d0 q0 ql h2'
          obtain ⟨f0, hf0⟩ : ∃ f0 : FT, f0 = ⟨t, W4.heap.size, none, 0, [], 0⟩ := ⟨_, rfl⟩
          have hfb : W4.heap.size = f0.fb := by rw [hf0]
          have HFe : Hid (∀ k, f0.blk k → k = W4.heap.size) := by
            rw [hf0]
            rintro k (hk | hk)
            · exact hk
            · cases hk
          obtain ⟨C5, hC5⟩ : ∃ C5 : Nat → Prop, C5 = fun k => C k ∧ k < W4.heap.size := ⟨_, rfl⟩
          have HC5 : Hid (∀ k, C5 k → C k ∧ k < W4.heap.size) := by rw [hC5]; exact fun k hk => hk
          have HD5 : Hid (DkI W5 C5 db D1) := by rw [hC5]; exact HD4.out.low_.below HB45.out
          obtain ⟨Cf, hCf⟩ : ∃ Cf : Nat → Prop, Cf = fun k => k = W4.heap.size := ⟨_, rfl⟩
          have HF5 : Hid (FtI W5 Cf f0) := by
            rw [hf0, hCf]
            exact ⟨HNm.out, HX5.out, World.ownsRow_nil _ _ _ _, (fun g hg => by cases hg), rfl, by show ([] : List Int).length ≤ 65536; simp, by show (0 : Nat) ≤ _; omega, (fun z hz => by cases hz)⟩
          have HLow5 : Hid (∀ k, f0.blk k → k ≠ db ∧ k ≠ D1.mb) := fun k hk => by
            have h3 := HFe.out k hk
            have h4 := HD4.out.bx.lt
            have h5 := HD4.out.mp.lt
            exact ⟨by omega, by omega⟩
          have HCdb : Hid (C db) := HD4.out.cb
          have HY5 : Hid (Box W5 w2.heap.size #[.int .u8 (bat t 0), .int .u8 (bat t 1), .int .u8 (bat t 2), .int .u8 (bat t 3), .int .u8 (bat t 4), .int .u8 (bat t 5), .int .u8 (bat t 6), .int .u8 (bat t 7), .int .u8 (bat t 8), .int .u8 (bat t 9), .int .u8 (bat t 10), .int .u8 (bat t 11)] 69) := HY4.out.below HB45.out
          have HYdb : Hid (w2.heap.size ≠ db) := by have := HQ.out.1.bx.lt; show w2.heap.size ≠ db; omega
          have HYf : Hid (¬ f0.blk w2.heap.size) := fun hk => by have h3 := HFe.out _ hk; have h4 := HY4.out.lt; omega
          have HLe5 : Hid (f0.zs.length + zs.length ≤ 65536) := by show f0.zs.length + zs.length ≤ 65536; rw [hf0]; show ([] : List Int).length + zs.length ≤ 65536; simp; omega
          have HF0n : Hid (f0.name = t) := by show f0.name = t; rw [hf0]
          have HEND : Hid (∀ (wa : World) (f1 : FT) (E : DK) (pe : Int), pe = payE D1 ((zs.length : Int) + 1) → E = D1.pays ((zs.length : Int) + 1) → f1.name = f0.name → f1.zs = f0.zs ++ zs.take (min (payN D1 ((zs.length : Int) + 1)) (zs.length : Int)).toNat → f1.sure = f0.sure → Chg { E with fs := E.fs ++ [f1] } C db w wa → ApD D t zs C db w (.returned (.int .i64 pe)) wa) := by
            intro wa f1 E pe hpe hE hn hz hs hc
            refine .inr (.inr (.inr (.inl ⟨HR.out, HFnd.out, by omega, HF4.out, by rw [hpe, HD1.out], f1, ?_, ?_⟩)))
            · unfold FT.key apM
              rw [hn, hz, hs, hf0, ← HD1.out]
              rfl
            · have e1 : E.fs = D.fs := by rw [hE, (pays_fs D1 _).1, HFsD.out.1]
              rw [← HD1.out, ← hE, ← e1]
              exact hc
          rw [hfb]
          clear hf0 hfb hC5 hCf
          have HPy := hid (dpay_any D1 ((zs.length : Int) + 1) W5 C5 db HD5.out HO1.out (by omega))
          go_wp2_with fail
          refine HPy.out.mono ?_
          rintro e W7 ⟨rfl, hP⟩
          rw [payV_eq]
          obtain ⟨E, hE0⟩ : ∃ E, E = D1.pays ((zs.length : Int) + 1) := ⟨_, rfl⟩
          have HEfs : Hid (E.fs = D1.fs) := by show E.fs = D1.fs; rw [hE0]; exact (pays_fs D1 _).1
          have HEmb : Hid (E.mb = D1.mb) := by show E.mb = D1.mb; rw [hE0]; exact (pays_fs D1 _).2
          have HD7 : Hid (DkI W7 C5 db E) := by show DkI _ _ _ _; rw [hE0]; exact hP.1
          have HB57 : Hid (But (fun k => k = db) W5 W7) := hP.2
          have HE0 := hid hE0
          have HEents : Hid (E.ents = D1.ents) := by show E.ents = D1.ents; unfold DK.ents; rw [HEfs.out]
          clear hP HPy hE0
          obtain ⟨pn, hpn⟩ : ∃ pn, pn = payN D1 ((zs.length : Int) + 1) := ⟨_, rfl⟩
          obtain ⟨pe, hpe⟩ : ∃ pe, pe = payE D1 ((zs.length : Int) + 1) := ⟨_, rfl⟩
          rw [← hpn, ← hpe]
          have hpn0 : 0 ≤ pn := by rw [hpn]; exact payN_nn HD5.out.bu (by omega)
          obtain ⟨m, hm⟩ : ∃ m : Nat, m = (min pn (zs.length : Int)).toNat := ⟨_, rfl⟩
          have HMm : Hid (min pn (zs.length : Int) = (m : Int)) := by show min pn (zs.length : Int) = (m : Int); omega
          have hmz : m ≤ zs.length := by omega
          have HPn := hid hpn
          have HPe := hid hpe
          have HMe := hid hm
          clear hpn hpe hm
          have hdbf : f0.fb ≠ db := (HLow5.out _ (.inl rfl)).1
          have HF7 : Hid (FtI W7 Cf f0) := HF5.out.kept (fun k hk => HB57.out.block k (HF5.out.blk hk).2 (HLow5.out k hk).1) (fun k hk => (HF5.out.blk hk).1)
          have HY7 : Hid (Box W7 w2.heap.size #[.int .u8 (bat t 0), .int .u8 (bat t 1), .int .u8 (bat t 2), .int .u8 (bat t 3), .int .u8 (bat t 4), .int .u8 (bat t 5), .int .u8 (bat t 6), .int .u8 (bat t 7), .int .u8 (bat t 8), .int .u8 (bat t 9), .int .u8 (bat t 10), .int .u8 (bat t 11)] 69) := HY5.out.kept (HB57.out.block _ HY5.out.lt (by show ¬ w2.heap.size = db; exact HYdb.out))
          have q0 := HF7.out.bx.cell 0
          have ql := HF7.out.bx.lt
          simp at q0
          have hcd : zs.length ≤ c := HDat.out.nc
          have hmc : (m : Int) ≤ (c : Int) := by omega
          have HB7 : Hid (But C w W7) := HB5.out.cc (HB57.out.mono fun k _ e => by have e' : k = db := e; subst e'; exact .inl HCdb.out)
          have HSrc : Hid (Src W7.drew p m c 1 ((zs.take m).map (Value.int .u8))) := by
            have hb : Byts W7 S p zs.length c (fun j => zs.getD j 0) := HDat.out.kept HB7.out.size fun b hb hl => HB7.out.block b hl (HSC.out b hb)
            have h1 := hb.src
            have h2 : ((List.range zs.length).map fun j => Value.int .u8 (zs.getD j 0)) = zs.map (Value.int .u8) := by
              have h3 := range_getD zs 0 zs.length (by omega)
              simp only [Nat.zero_add, List.drop_zero, List.take_length] at h3
              conv => rhs; rw [← h3, List.map_map]
              rfl
            rw [h2] at h1
            exact Src.take h1 m hmz
          have HS7 : Hid (W7.drew.ownsRow 0 5 1 (.slice f0.p f0.zs.length f0.c) f0.zs.length (f0.zs.map (Value.int .u8))) := HF7.out.row
          have HBx7 : Hid (∀ w8, W7.drew.grownBy w8 (Value.slice f0.p f0.zs.length f0.c).ownBlock → Box w8 f0.fb #[.slice f0.p f0.zs.length f0.c, .int .i64 (f0.sure : Int)] 76) := fun w8 hg => HF7.out.bx.kept (hg.block f0.fb HF7.out.bx.lt fun e => (HF7.out.rc f0.fb e.symm).2 rfl)
          have hle7 := HLe5.out
          have hmin := HMm.out
          go_upto_region 10 with fail
          refine wp_region_calmE 30 (fun wx => Below W7.heap.size W7 wx) [(0, true), (1, true), (2, true), (3, true), (4, false), (5, true), (6, true), (7, true), (8, true), (9, true), (10, true)] (.one 11 false [(12, true), (13, true)] (.one 14 false [] .done)) (by kernel_rfl) (by kernel_rfl) (Below.refl _ _).drew ?_
          refine wpPre_e rfl rfl (fun K1 hK1 => ?_)
          apply Exists.intro
          refine And.intro (fun wx hx => ?_) ?_
          · go_simp
            try rfl
          go_simp
          refine hK1 _ ?_
          clear hK1 K1
          refine wpPre_e rfl rfl (fun K1 hK1 => ?_)
          apply Exists.intro
          refine And.intro (fun wx hx => ?_) ?_
          · go_simp
            try rfl
          go_simp
          refine hK1 _ ?_
          clear hK1 K1
          refine wpPre_e rfl rfl (fun K1 hK1 => ?_)
          apply Exists.intro
          refine And.intro (fun wx hx => ?_) ?_
          · go_simp
            try rfl
          go_simp
          refine hK1 _ ?_
          clear hK1 K1
          refine wpPre_e rfl rfl (fun K1 hK1 => ?_)
          apply Exists.intro
          refine And.intro (fun wx hx => ?_) ?_
          · go_simp
            try rfl
          go_simp
          refine hK1 _ ?_
          clear hK1 K1
          refine wpPre_e rfl rfl (fun K1 hK1 => ?_)
          apply Exists.intro
          refine And.intro (fun wx hx => ?_) ?_
          · have e0 := below_fact hx rfl q0
            go_simp
            try rfl
          go_simp
          refine hK1 _ ?_
          clear hK1 K1
          refine wpPre_e rfl rfl (fun K1 hK1 => ?_)
          apply Exists.intro
          refine And.intro (fun wx hx => ?_) ?_
          · go_simp
            try rfl
          go_simp
          refine hK1 _ ?_
          clear hK1 K1
          refine wpPre_e rfl rfl (fun K1 hK1 => ?_)
          apply Exists.intro
          refine And.intro (fun wx hx => ?_) ?_
          · go_simp
            try rfl
          go_simp
          refine hK1 _ ?_
          clear hK1 K1
          refine wpPre_e rfl rfl (fun K1 hK1 => ?_)
          apply Exists.intro
          refine And.intro (fun wx hx => ?_) ?_
          · go_simp
            try rfl
          go_simp
          refine hK1 _ ?_
          clear hK1 K1
          refine wpPre_e rfl rfl (fun K1 hK1 => ?_)
          apply Exists.intro
          refine And.intro (fun wx hx => ?_) ?_
          · go_simp
            try rfl
          go_simp
          refine hK1 _ ?_
          clear hK1 K1
          refine wpPre_e rfl rfl (fun K1 hK1 => ?_)
          apply Exists.intro
          refine And.intro (fun wx hx => ?_) ?_
          · go_simp
            try rfl
          go_simp
          refine hK1 _ ?_
          clear hK1 K1
          refine wpPre_e rfl rfl (fun K1 hK1 => ?_)
          apply Exists.intro
          refine And.intro (fun wx hx => ?_) ?_
          · go_simp
            try rfl
          go_simp
          refine hK1 _ ?_
          clear hK1 K1
          refine wpPre_nil ?_
          refine wpTr_e rfl (fun K1 hK1 => ?_)
          refine step_appS rfl (.tmp 67) (.tmp 73) 30 5 i0 _ 1 1 HKd.out rfl 0 (.slice f0.p f0.zs.length f0.c) f0.zs.length _ rfl HS7.out p m c _ rfl HSrc.out (one_u8 (zs.take m)) (by omega) (by omega) (Nat.zero_le _) ?_
          intro v8 w8 ho hg hn
          obtain ⟨p8, c8, hv8⟩ := ownsRow_slice ho
          subst hv8
          have HO := hid ho
          have HG := hid hg
          have HN := hid hn
          clear ho hg hn
          have HX8 := hid (HBx7.out w8 HG.out)
          have s0 := HX8.out.cell 0
          have s1 := HX8.out.frozen 0
          have s2 := HX8.out.lt
          simp at s0
          go_simp
          refine hK1 _ _ (fun h => by cases h) ?_
          clear hK1 K1
          refine wpPre_e rfl rfl (fun K1 hK1 => ?_)
          apply Exists.intro
          refine And.intro (fun wx hx => ?_) ?_
          · go_simp
            try rfl
          go_simp
          refine hK1 _ ?_
          clear hK1 K1
          refine wpPre_e rfl rfl (fun K1 hK1 => ?_)
          apply Exists.intro
          refine And.intro (fun wx hx => ?_) ?_
          · go_simp
            try rfl
          go_simp
          refine hK1 _ ?_
          clear hK1 K1
          refine wpPre_nil ?_
          refine wpTr_e rfl (fun K1 hK1 => ?_)
          go_simp
          refine hK1 _ _ (fun h => by cases h) ?_
          clear s0 s1 s2
          clear hK1 K1
          refine wpPre_nil ?_
          refine wpTr_done ?_
          clear q0 ql hmin
          obtain ⟨f1, hf1⟩ : ∃ f1 : FT, f1 = ⟨f0.name, f0.fb, p8, c8, f0.zs ++ zs.take m, f0.sure⟩ := ⟨_, rfl⟩
          have htl : (zs.take m).length = m := by simp; omega
          have hln : (f0.zs ++ zs.take m).length = f0.zs.length + m := by rw [List.length_append, htl]
          obtain ⟨W9, hW9⟩ : ∃ V, V = w8.setCell ⟨f0.fb, 0, none⟩ (.slice p8 (f0.zs.length + m) c8) := ⟨_, rfl⟩
          have hbt8 : But f0.blk W7 w8 := (But.refl f0.blk W7).drew.grown HG.out fun k e _ => .inr e
          have HBt9 : Hid (But f0.blk W7 W9) := by show But _ _ _; rw [hW9]; exact hbt8.setCell (p := ⟨f0.fb, 0, none⟩) (fun _ => .inl rfl) _
          have hnb : ∀ k, (Value.slice p8 (f0.zs.length + m) c8).ownBlock = some k → f0.blk k ∨ W7.heap.size ≤ k := fun k hk => by
            rcases HN.out with h1 | h1
            · exact .inl (.inr (h1.symm.trans hk))
            · exact .inr (h1 k hk)
          have hnf : ∀ k, (Value.slice p8 (f0.zs.length + m) c8).ownBlock = some k → k ≠ f0.fb := fun k hk e => by
            rcases HN.out with h1 | h1
            · exact (HF7.out.rc k (h1.symm.trans hk)).2 e
            · have h2 := h1 k hk
              have h3 := HF7.out.bx.lt
              have h4 : W7.heap.size ≤ k := h2
              omega
          have HFn : Hid (∀ k, f1.blk k → f0.blk k ∨ W7.heap.size ≤ k) := by
            rw [hf1]
            rintro k (hk | hk)
            · exact .inl (.inl hk)
            · have hk' : (Value.slice p8 (f0.zs ++ zs.take m).length c8).ownBlock = some k := hk
              rw [hln] at hk'
              exact hnb k hk'
          have HI9 : Hid (FtI W9 (fun k => Cf k ∨ W7.heap.size ≤ k) f1) := by
            rw [hf1]
            refine ⟨HF7.out.nm, ?_, ?_, ?_, .inl HF7.out.fc, ?_, ?_, ?_⟩
            · show Box W9 f0.fb #[.slice p8 (f0.zs ++ zs.take m).length c8, .int .i64 (f0.sure : Int)] 76
              rw [hln, hW9]
              have h := (HBx7.out w8 HG.out).set 0 (.slice p8 (f0.zs.length + m) c8)
              simpa using h
            · show OwnBy 0 W9 (.slice p8 (f0.zs ++ zs.take m).length c8) (f0.zs ++ zs.take m)
              rw [hln, hW9]
              have h := OwnBy.app (zs := f0.zs) (ys := zs.take m) HF7.out.row (by rw [htl]; exact HO.out)
              exact ownsRow_keep h fun k hk hl => Below.heap_setCell _ _ _ _ (hnf k hk)
            · intro k hk
              have hk' : (Value.slice p8 (f0.zs ++ zs.take m).length c8).ownBlock = some k := hk
              rw [hln] at hk'
              exact ⟨(hnb k hk').imp_left fun e => (HF7.out.blk e).1, hnf k hk'⟩
            · show (f0.zs ++ zs.take m).length ≤ 65536
              rw [hln]
              omega
            · show f0.sure ≤ (f0.zs ++ zs.take m).length
              rw [hln]
              have := HF7.out.su
              omega
            · intro z hz
              rcases List.mem_append.1 hz with h | h
              · exact HF7.out.by_ z h
              · obtain ⟨j, hj⟩ := List.mem_iff_getElem?.1 (List.mem_of_mem_take h)
                have hjl := (List.getElem?_eq_some_iff.1 hj).1
                have := HDat.out.fit j hjl
                rw [List.getD_eq_getElem?_getD, hj] at this
                simp at this
                omega
          have HY9 : Hid (Box W9 w2.heap.size #[.int .u8 (bat t 0), .int .u8 (bat t 1), .int .u8 (bat t 2), .int .u8 (bat t 3), .int .u8 (bat t 4), .int .u8 (bat t 5), .int .u8 (bat t 6), .int .u8 (bat t 7), .int .u8 (bat t 8), .int .u8 (bat t 9), .int .u8 (bat t 10), .int .u8 (bat t 11)] 69) := HY7.out.kept (HBt9.out.block _ HY7.out.lt HYf.out)
          have HF1 := hid hf1
          have HW9 := hid hW9
          have HSz9 : Hid (W7.heap.size ≤ W9.heap.size) := HBt9.out.size
          have HD9 : Hid (DkI W9 (fun k => C k ∨ w.heap.size ≤ k) db E) := by
            have h1 := HD7.out.kept fun k hk hl => HBt9.out.block k hl fun e => by
              have h2 : k < W4.heap.size := (HC5.out k hk).2
              have h3 := HFe.out k e
              omega
            exact h1.mono fun k hk _ => .inl (HC5.out k hk).1
          have HF9 : Hid (FtI W9 (fun k => C k ∨ w.heap.size ≤ k) f1) := HI9.out.kept (fun _ _ => rfl) fun k hk => by
            rcases HFn.out k hk with h | h
            · have := HFe.out k h
              have := HB4.out.size
              exact .inr (by omega)
            · exact .inr (Nat.le_trans HB7.out.size h)
          have HFb9 : Hid (∀ k, f1.blk k → k ≠ db ∧ k ≠ E.mb ∧ ∀ g ∈ E.fs, ¬ g.blk k) := fun k hk => by
            have hge : W4.heap.size ≤ k := by
              rcases HFn.out k hk with h | h
              · have := HFe.out k h
                omega
              · have h1 := HB45.out.size
                have h2 := HB57.out.size
                omega
            have h1 := (HC5.out _ HD7.out.cb).2
            have h2 := (HC5.out _ HD7.out.cm).2
            exact ⟨by omega, by omega, fun g hg hgk => by have := (HC5.out _ ((HD7.out.each g hg).blk hgk).1).2; omega⟩
          have HB9 : Hid (But C w W9) := HB7.out.cc (HBt9.out.mono fun k _ e => .inr (by have := HFe.out k e; have := HB4.out.size; omega))
          have HM9 : Hid (MpI W9.drew E.mb E.ents) := HD9.out.mp
          have HLk9 : Hid (lk E.ents t = none) := by show lk E.ents t = none; rw [HEents.out]; exact HLk.out
          have HN1 : Hid (f1.name = t ∧ f1.fb = f0.fb) := by rw [hf1]; exact ⟨HF0n.out, rfl⟩
          have d0 := HD9.out.bx.cell 0
          simp at d0
          have y0 := HY9.out.cell 0
          have y1 := HY9.out.cell 1
          have y2 := HY9.out.cell 2
          have y3 := HY9.out.cell 3
          have y4 := HY9.out.cell 4
          have y5 := HY9.out.cell 5
          have y6 := HY9.out.cell 6
          have y7 := HY9.out.cell 7
          have y8 := HY9.out.cell 8
          have y9 := HY9.out.cell 9
          have y10 := HY9.out.cell 10
          have y11 := HY9.out.cell 11
          have yl := HY9.out.lt
          simp at y0 y1 y2 y3 y4 y5 y6 y7 y8 y9 y10 y11
          clear hf1 hW9 hbt8 hnb hnf htl hln
          go_upto_region 11 with fail
          first
            | rw [← HW9.out]
            | (rw [show (w8.setCell ⟨f0.fb, 0, none⟩ (.slice p8 (f0.zs.length + m) c8)).drew = W9.drew from by rw [HW9.out]])
          refine wp_region_calmE 30 (fun wx => Below W9.heap.size W9 wx) [(0, true), (1, true), (2, true), (3, false), (4, false), (5, true)] (.one 6 false [] .done) (by kernel_rfl) (by kernel_rfl) (Below.refl _ _).drew ?_
          refine wpPre_e rfl rfl (fun K1 hK1 => ?_)
          apply Exists.intro
          refine And.intro (fun wx hx => ?_) ?_
          · go_simp
            try rfl
          go_simp
          refine hK1 _ ?_
          clear hK1 K1
          refine wpPre_e rfl rfl (fun K1 hK1 => ?_)
          apply Exists.intro
          refine And.intro (fun wx hx => ?_) ?_
          · go_simp
            try rfl
          go_simp
          refine hK1 _ ?_
          clear hK1 K1
          refine wpPre_e rfl rfl (fun K1 hK1 => ?_)
          apply Exists.intro
          refine And.intro (fun wx hx => ?_) ?_
          · go_simp
            try rfl
          go_simp
          refine hK1 _ ?_
          clear hK1 K1
          refine wpPre_e rfl rfl (fun K1 hK1 => ?_)
          apply Exists.intro
          refine And.intro (fun wx hx => ?_) ?_
          · have e0 := below_fact hx rfl d0
            go_simp
            try rfl
          go_simp
          refine hK1 _ ?_
          clear hK1 K1
          refine wpPre_e rfl rfl (fun K1 hK1 => ?_)
          apply Exists.intro
          refine And.intro (fun wx hx => ?_) ?_
          · have e0 := below_fact hx rfl y0
            have e1 := below_fact hx rfl y1
            have e2 := below_fact hx rfl y2
            have e3 := below_fact hx rfl y3
            have e4 := below_fact hx rfl y4
            have e5 := below_fact hx rfl y5
            have e6 := below_fact hx rfl y6
            have e7 := below_fact hx rfl y7
            have e8 := below_fact hx rfl y8
            have e9 := below_fact hx rfl y9
            have e10 := below_fact hx rfl y10
            have e11 := below_fact hx rfl y11
            go_simp
            try rfl
          go_simp
          refine hK1 _ ?_
          clear hK1 K1
          refine wpPre_e rfl rfl (fun K1 hK1 => ?_)
          apply Exists.intro
          refine And.intro (fun wx hx => ?_) ?_
          · go_simp
            try rfl
          go_simp
          refine hK1 _ ?_
          clear hK1 K1
          refine wpPre_nil ?_
          refine wpTr_e rfl (fun K1 hK1 => ?_)
          refine step_upd rfl (.tmp 80) (.tmp 81) (.tmp 82) rfl (b := E.mb) (Es := E.ents) (s := t) (u := .pointer (some ⟨f0.fb, 0, none⟩)) rfl rfl rfl HM9.out HNm.out HLk9.out (fun wa hma hba => ?_)
          have HMa := hid hma
          have HBa := hid hba
          clear hma hba
          go_simp
          refine hK1 _ _ (fun h => by cases h) ?_
          clear hK1 K1
          refine wpPre_nil ?_
          refine wpTr_done ?_
          clear y0 y1 y2 y3 y4 y5 y6 y7 y8 y9 y10 y11 yl d0
          go_wp2
          have hba9 : But (fun k => k = E.mb) W9 wa := (But.refl _ _).drew.trans HBa.out
          have hE : Chg { E with fs := E.fs ++ [f1] } C db w wa := by
            have hd := (DkI.add (f := f1) HD9.out HF9.out HFb9.out (by rw [HEfs.out]; exact HLt4.out) (by rw [HN1.out.1, HN1.out.2]; exact HMa.out) hba9)
            refine ⟨hd, HB9.out.cc (hba9.mono (Y := fun k => C k ∨ w.heap.size ≤ k) fun k _ e => by have e' : k = E.mb := e; subst e'; exact HD9.out.cm)⟩
          refine bodyPost_ret (v := .int .i64 pe) (by simp [results, Tryd.results22, go_sem]) rfl ?_
          exact HEND.out wa f1 E pe HPe.out HE0.out (by rw [HF1.out]) (by rw [HF1.out]; show f0.zs ++ zs.take m = f0.zs ++ zs.take (min (payN D1 ((zs.length : Int) + 1)) (zs.length : Int)).toNat; rw [← HPn.out, ← HMe.out]) (by rw [HF1.out]) hE
    | some f0 =>
      have HFnd : Hid (fnd D1 t = some f0) := hf
      have HFndD : Hid (fnd D t = some f0) := by show fnd D t = some f0; unfold fnd; rw [← HFsD.out.1]; exact hf
      have hlk : lk D1.ents t = some (.pointer (some ⟨f0.fb, 0, none⟩)) := by rw [lk_ents, hf]; rfl
      have HLk := hid hlk
      refine wp_region_calmE 30 (fun wx => Below W3.heap.size W3 wx) [(0, true), (1, true), (2, true), (3, false), (4, false), (5, false), (6, true), (7, true), (8, true), (9, true), (10, true)] .done (by kernel_rfl) (by kernel_rfl) (Below.refl _ _).drew ?_
      refine wpPre_e rfl rfl (fun K1 hK1 => ?_)
      apply Exists.intro
      refine And.intro (fun wx hx => ?_) ?_
      · go_simp
        try rfl
      go_simp
      refine hK1 _ ?_
      clear hK1 K1
      refine wpPre_e rfl rfl (fun K1 hK1 => ?_)
      apply Exists.intro
      refine And.intro (fun wx hx => ?_) ?_
      · go_simp
        try rfl
      go_simp
      refine hK1 _ ?_
      clear hK1 K1
      refine wpPre_e rfl rfl (fun K1 hK1 => ?_)
      apply Exists.intro
      refine And.intro (fun wx hx => ?_) ?_
      · go_simp
        try rfl
      go_simp
      refine hK1 _ ?_
      clear hK1 K1
      refine wpPre_e rfl rfl (fun K1 hK1 => ?_)
      apply Exists.intro
      refine And.intro (fun wx hx => ?_) ?_
      · have e0 := below_fact hx rfl d0
        go_simp
        try rfl
      go_simp
      refine hK1 _ ?_
      clear hK1 K1
      refine wpPre_e rfl rfl (fun K1 hK1 => ?_)
      apply Exists.intro
      refine And.intro (fun wx hx => ?_) ?_
      · have e0 := below_fact hx rfl y0
        have e1 := below_fact hx rfl y1
        have e2 := below_fact hx rfl y2
        have e3 := below_fact hx rfl y3
        have e4 := below_fact hx rfl y4
        have e5 := below_fact hx rfl y5
        have e6 := below_fact hx rfl y6
        have e7 := below_fact hx rfl y7
        have e8 := below_fact hx rfl y8
        have e9 := below_fact hx rfl y9
        have e10 := below_fact hx rfl y10
        have e11 := below_fact hx rfl y11
        go_simp
        try rfl
      go_simp
      refine hK1 _ ?_
      clear hK1 K1
      refine wpPre_e rfl rfl (fun K1 hK1 => ?_)
      apply Exists.intro
      refine And.intro (fun wx hx => ?_) ?_
      · have hx2 := hx.resolve_left (by simp)
        have e0 := run_look (HM4.out.kept (hx2.block _ HM4.out.lt)) HNm.out true
        simp only [labV, labC, hlk, Option.getD_some, Option.isSome_some, if_true] at e0
        go_simp
        try rfl
      go_simp
      refine hK1 _ ?_
      clear hK1 K1
      refine wpPre_e rfl rfl (fun K1 hK1 => ?_)
      apply Exists.intro
      refine And.intro (fun wx hx => ?_) ?_
      · go_simp
        try rfl
      go_simp
      refine hK1 _ ?_
      clear hK1 K1
      refine wpPre_e rfl rfl (fun K1 hK1 => ?_)
      apply Exists.intro
      refine And.intro (fun wx hx => ?_) ?_
      · go_simp
        try rfl
      go_simp
      refine hK1 _ ?_
      clear hK1 K1
      refine wpPre_e rfl rfl (fun K1 hK1 => ?_)
      apply Exists.intro
      refine And.intro (fun wx hx => ?_) ?_
      · go_simp
        try rfl
      go_simp
      refine hK1 _ ?_
      clear hK1 K1
      refine wpPre_e rfl rfl (fun K1 hK1 => ?_)
      apply Exists.intro
      refine And.intro (fun wx hx => ?_) ?_
      · go_simp
        try rfl
      go_simp
      refine hK1 _ ?_
      clear hK1 K1
      refine wpPre_e rfl rfl (fun K1 hK1 => ?_)
      apply Exists.intro
      refine And.intro (fun wx hx => ?_) ?_
      · go_simp
        try rfl
      go_simp
      refine hK1 _ ?_
      clear hK1 K1
      refine wpPre_nil ?_
      refine wpTr_done ?_
      clear hlk y0 y1 y2 y3 y4 y5 y6 y7 y8 y9 y10 y11 yl d0 hf
      obtain ⟨W4, hW4⟩ : ∃ V, V = W3.drew := ⟨_, rfl⟩
      rw [← hW4]
      have HD4 : Hid (DkI W4 C db D1) := by show DkI _ _ _ _; rw [hW4]; exact HD3.out.kept fun _ _ _ => rfl
      have HB4 : Hid (But C w W4) := by show But _ _ _; rw [hW4]; exact HB3.out.drew
      have HY4 : Hid (Box W4 w2.heap.size #[.int .u8 (bat t 0), .int .u8 (bat t 1), .int .u8 (bat t 2), .int .u8 (bat t 3), .int .u8 (bat t 4), .int .u8 (bat t 5), .int .u8 (bat t 6), .int .u8 (bat t 7), .int .u8 (bat t 8), .int .u8 (bat t 9), .int .u8 (bat t 10), .int .u8 (bat t 11)] 69) := by show Box _ _ _ _; rw [hW4]; exact HY3.out
      have HM5 : Hid (MpI W4 D1.mb D1.ents) := HD4.out.mp
      clear hW4
      have HFm : Hid (f0 ∈ D1.fs) := (fnd_at HFnd.out).1
      have HF4 : Hid (FtI W4 C f0) := HD4.out.each f0 HFm.out
      have q0 := HF4.out.bx.cell 0
      have ql := HF4.out.bx.lt
      simp at q0
      have hle0 := HF4.out.le
      have HCh5 : Hid (Chg (begD D t) C db w W4) := by rw [← HD1.out]; exact ⟨HD4.out.mono fun _ hk _ => .inl hk, HB4.out⟩
      by_cases h1 : f0.zs.length + zs.length ≤ 65536
      · have h1' : ¬ (65536 : Int) - (f0.zs.length : Int) < (zs.length : Int) := by omega
        go_upto_region 9 with fail
        clear q0 ql
        obtain ⟨C5, hC5⟩ : ∃ C5 : Nat → Prop, C5 = C := ⟨_, rfl⟩
        obtain ⟨Cf, hCf⟩ : ∃ Cf : Nat → Prop, Cf = C := ⟨_, rfl⟩
        obtain ⟨W5, hW5⟩ : ∃ V, V = W4 := ⟨_, rfl⟩
        have HD5 : Hid (DkI W5 C5 db D1) := by rw [hC5, hW5]; exact HD4.out
        have HF5 : Hid (FtI W5 Cf f0) := by rw [hCf, hW5]; exact HF4.out
        have HB5 : Hid (But C w W5) := by rw [hW5]; exact HB4.out
        have HLow5 : Hid (∀ k, f0.blk k → k ≠ db ∧ k ≠ D1.mb) := HD4.out.low f0 HFm.out
        have HCdb : Hid (C db) := HD4.out.cb
        have HY5 : Hid (Box W5 w2.heap.size #[.int .u8 (bat t 0), .int .u8 (bat t 1), .int .u8 (bat t 2), .int .u8 (bat t 3), .int .u8 (bat t 4), .int .u8 (bat t 5), .int .u8 (bat t 6), .int .u8 (bat t 7), .int .u8 (bat t 8), .int .u8 (bat t 9), .int .u8 (bat t 10), .int .u8 (bat t 11)] 69) := by rw [hW5]; exact HY4.out
        have HYdb : Hid (w2.heap.size ≠ db) := by have := HQ.out.1.bx.lt; show w2.heap.size ≠ db; omega
        have HYf : Hid (¬ f0.blk w2.heap.size) := fun hk => by
          have h3 := ((HQ.out.1.each f0 (by rw [← HD1.out]; exact HFm.out)).blk hk).2
          omega
        have HLe5 : Hid (f0.zs.length + zs.length ≤ 65536) := h1
        have HEND : Hid (∀ (wa : World) (f1 : FT) (E : DK) (pe : Int), pe = payE D1 ((zs.length : Int) + 1) → E = D1.pays ((zs.length : Int) + 1) → f1.name = f0.name → f1.zs = f0.zs ++ zs.take (min (payN D1 ((zs.length : Int) + 1)) (zs.length : Int)).toNat → f1.sure = f0.sure → Chg (E.upd t f1) C db w wa → ApD D t zs C db w (.returned (.int .i64 pe)) wa) := by
          intro wa f1 E pe hpe hE hn hz hs hc
          refine .inr (.inr (.inr (.inr ⟨HR.out, f0, HFndD.out, HLe5.out, by rw [hpe, HD1.out], f1, ?_, ?_⟩)))
          · unfold FT.key apM
            rw [hn, hz, hs, ← HD1.out, (fnd_at HFnd.out).2]
          · rw [← HD1.out, ← hE]
            exact hc
        rw [← hW5]
        have HCfC : Hid (∀ k, Cf k → C k) := by rw [hCf]; exact fun k hk => hk
        have HC5C : Hid (C5 = C ∧ Cf = C) := ⟨hC5, hCf⟩
        clear hC5 hCf hW5
        have HPy := hid (dpay_any D1 ((zs.length : Int) + 1) W5 C5 db HD5.out HO1.out (by omega))
        go_wp2_with fail
        refine HPy.out.mono ?_
        rintro e W7 ⟨rfl, hP⟩
        rw [payV_eq]
        obtain ⟨E, hE0⟩ : ∃ E, E = D1.pays ((zs.length : Int) + 1) := ⟨_, rfl⟩
        have HEfs : Hid (E.fs = D1.fs) := by show E.fs = D1.fs; rw [hE0]; exact (pays_fs D1 _).1
        have HEmb : Hid (E.mb = D1.mb) := by show E.mb = D1.mb; rw [hE0]; exact (pays_fs D1 _).2
        have HD7 : Hid (DkI W7 C5 db E) := by show DkI _ _ _ _; rw [hE0]; exact hP.1
        have HB57 : Hid (But (fun k => k = db) W5 W7) := hP.2
        have HE0 := hid hE0
        have HEents : Hid (E.ents = D1.ents) := by show E.ents = D1.ents; unfold DK.ents; rw [HEfs.out]
        clear hP HPy hE0
        obtain ⟨pn, hpn⟩ : ∃ pn, pn = payN D1 ((zs.length : Int) + 1) := ⟨_, rfl⟩
        obtain ⟨pe, hpe⟩ : ∃ pe, pe = payE D1 ((zs.length : Int) + 1) := ⟨_, rfl⟩
        rw [← hpn, ← hpe]
        have hpn0 : 0 ≤ pn := by rw [hpn]; exact payN_nn HD5.out.bu (by omega)
        obtain ⟨m, hm⟩ : ∃ m : Nat, m = (min pn (zs.length : Int)).toNat := ⟨_, rfl⟩
        have HMm : Hid (min pn (zs.length : Int) = (m : Int)) := by show min pn (zs.length : Int) = (m : Int); omega
        have hmz : m ≤ zs.length := by omega
        have HPn := hid hpn
        have HPe := hid hpe
        have HMe := hid hm
        clear hpn hpe hm
        have hdbf : f0.fb ≠ db := (HLow5.out _ (.inl rfl)).1
        have HF7 : Hid (FtI W7 Cf f0) := HF5.out.kept (fun k hk => HB57.out.block k (HF5.out.blk hk).2 (HLow5.out k hk).1) (fun k hk => (HF5.out.blk hk).1)
        have HY7 : Hid (Box W7 w2.heap.size #[.int .u8 (bat t 0), .int .u8 (bat t 1), .int .u8 (bat t 2), .int .u8 (bat t 3), .int .u8 (bat t 4), .int .u8 (bat t 5), .int .u8 (bat t 6), .int .u8 (bat t 7), .int .u8 (bat t 8), .int .u8 (bat t 9), .int .u8 (bat t 10), .int .u8 (bat t 11)] 69) := HY5.out.kept (HB57.out.block _ HY5.out.lt (by show ¬ w2.heap.size = db; exact HYdb.out))
        have q0 := HF7.out.bx.cell 0
        have ql := HF7.out.bx.lt
        simp at q0
        have hcd : zs.length ≤ c := HDat.out.nc
        have hmc : (m : Int) ≤ (c : Int) := by omega
        have HB7 : Hid (But C w W7) := HB5.out.cc (HB57.out.mono fun k _ e => by have e' : k = db := e; subst e'; exact .inl HCdb.out)
        have HSrc : Hid (Src W7.drew p m c 1 ((zs.take m).map (Value.int .u8))) := by
          have hb : Byts W7 S p zs.length c (fun j => zs.getD j 0) := HDat.out.kept HB7.out.size fun b hb hl => HB7.out.block b hl (HSC.out b hb)
          have h1 := hb.src
          have h2 : ((List.range zs.length).map fun j => Value.int .u8 (zs.getD j 0)) = zs.map (Value.int .u8) := by
            have h3 := range_getD zs 0 zs.length (by omega)
            simp only [Nat.zero_add, List.drop_zero, List.take_length] at h3
            conv => rhs; rw [← h3, List.map_map]
            rfl
          rw [h2] at h1
          exact Src.take h1 m hmz
        have HS7 : Hid (W7.drew.ownsRow 0 5 1 (.slice f0.p f0.zs.length f0.c) f0.zs.length (f0.zs.map (Value.int .u8))) := HF7.out.row
        have HBx7 : Hid (∀ w8, W7.drew.grownBy w8 (Value.slice f0.p f0.zs.length f0.c).ownBlock → Box w8 f0.fb #[.slice f0.p f0.zs.length f0.c, .int .i64 (f0.sure : Int)] 76) := fun w8 hg => HF7.out.bx.kept (hg.block f0.fb HF7.out.bx.lt fun e => (HF7.out.rc f0.fb e.symm).2 rfl)
        have hle7 := HLe5.out
        have hmin := HMm.out
        go_upto_region 10 with fail
        refine wp_region_calmE 30 (fun wx => Below W7.heap.size W7 wx) [(0, true), (1, true), (2, true), (3, true), (4, false), (5, true), (6, true), (7, true), (8, true), (9, true), (10, true)] (.one 11 false [(12, true), (13, true)] (.one 14 false [] .done)) (by kernel_rfl) (by kernel_rfl) (Below.refl _ _).drew ?_
        refine wpPre_e rfl rfl (fun K1 hK1 => ?_)
        apply Exists.intro
        refine And.intro (fun wx hx => ?_) ?_
        · go_simp
          try rfl
        go_simp
        refine hK1 _ ?_
        clear hK1 K1
        refine wpPre_e rfl rfl (fun K1 hK1 => ?_)
        apply Exists.intro
        refine And.intro (fun wx hx => ?_) ?_
        · go_simp
          try rfl
        go_simp
        refine hK1 _ ?_
        clear hK1 K1
        refine wpPre_e rfl rfl (fun K1 hK1 => ?_)
        apply Exists.intro
        refine And.intro (fun wx hx => ?_) ?_
        · go_simp
          try rfl
        go_simp
        refine hK1 _ ?_
        clear hK1 K1
        refine wpPre_e rfl rfl (fun K1 hK1 => ?_)
        apply Exists.intro
        refine And.intro (fun wx hx => ?_) ?_
        · go_simp
          try rfl
        go_simp
        refine hK1 _ ?_
        clear hK1 K1
        refine wpPre_e rfl rfl (fun K1 hK1 => ?_)
        apply Exists.intro
        refine And.intro (fun wx hx => ?_) ?_
        · have e0 := below_fact hx rfl q0
          go_simp
          try rfl
        go_simp
        refine hK1 _ ?_
        clear hK1 K1
        refine wpPre_e rfl rfl (fun K1 hK1 => ?_)
        apply Exists.intro
        refine And.intro (fun wx hx => ?_) ?_
        · go_simp
          try rfl
        go_simp
        refine hK1 _ ?_
        clear hK1 K1
        refine wpPre_e rfl rfl (fun K1 hK1 => ?_)
        apply Exists.intro
        refine And.intro (fun wx hx => ?_) ?_
        · go_simp
          try rfl
        go_simp
        refine hK1 _ ?_
        clear hK1 K1
        refine wpPre_e rfl rfl (fun K1 hK1 => ?_)
        apply Exists.intro
        refine And.intro (fun wx hx => ?_) ?_
        · go_simp
          try rfl
        go_simp
        refine hK1 _ ?_
        clear hK1 K1
        refine wpPre_e rfl rfl (fun K1 hK1 => ?_)
        apply Exists.intro
        refine And.intro (fun wx hx => ?_) ?_
        · go_simp
          try rfl
        go_simp
        refine hK1 _ ?_
        clear hK1 K1
        refine wpPre_e rfl rfl (fun K1 hK1 => ?_)
        apply Exists.intro
        refine And.intro (fun wx hx => ?_) ?_
        · go_simp
          try rfl
        go_simp
        refine hK1 _ ?_
        clear hK1 K1
        refine wpPre_e rfl rfl (fun K1 hK1 => ?_)
        apply Exists.intro
        refine And.intro (fun wx hx => ?_) ?_
        · go_simp
          try rfl
        go_simp
        refine hK1 _ ?_
        clear hK1 K1
        refine wpPre_nil ?_
        refine wpTr_e rfl (fun K1 hK1 => ?_)
        refine step_appS rfl (.tmp 67) (.tmp 73) 30 5 i0 _ 1 1 HKd.out rfl 0 (.slice f0.p f0.zs.length f0.c) f0.zs.length _ rfl HS7.out p m c _ rfl HSrc.out (one_u8 (zs.take m)) (by omega) (by omega) (Nat.zero_le _) ?_
        intro v8 w8 ho hg hn
        obtain ⟨p8, c8, hv8⟩ := ownsRow_slice ho
        subst hv8
        have HO := hid ho
        have HG := hid hg
        have HN := hid hn
        clear ho hg hn
        have HX8 := hid (HBx7.out w8 HG.out)
        have s0 := HX8.out.cell 0
        have s1 := HX8.out.frozen 0
        have s2 := HX8.out.lt
        simp at s0
        go_simp
        refine hK1 _ _ (fun h => by cases h) ?_
        clear hK1 K1
        refine wpPre_e rfl rfl (fun K1 hK1 => ?_)
        apply Exists.intro
        refine And.intro (fun wx hx => ?_) ?_
        · go_simp
          try rfl
        go_simp
        refine hK1 _ ?_
        clear hK1 K1
        refine wpPre_e rfl rfl (fun K1 hK1 => ?_)
        apply Exists.intro
        refine And.intro (fun wx hx => ?_) ?_
        · go_simp
          try rfl
        go_simp
        refine hK1 _ ?_
        clear hK1 K1
        refine wpPre_nil ?_
        refine wpTr_e rfl (fun K1 hK1 => ?_)
        go_simp
        refine hK1 _ _ (fun h => by cases h) ?_
        clear s0 s1 s2
        clear hK1 K1
        refine wpPre_nil ?_
        refine wpTr_done ?_
        clear q0 ql hmin
        obtain ⟨f1, hf1⟩ : ∃ f1 : FT, f1 = ⟨f0.name, f0.fb, p8, c8, f0.zs ++ zs.take m, f0.sure⟩ := ⟨_, rfl⟩
        have htl : (zs.take m).length = m := by simp; omega
        have hln : (f0.zs ++ zs.take m).length = f0.zs.length + m := by rw [List.length_append, htl]
        obtain ⟨W9, hW9⟩ : ∃ V, V = w8.setCell ⟨f0.fb, 0, none⟩ (.slice p8 (f0.zs.length + m) c8) := ⟨_, rfl⟩
        have hbt8 : But f0.blk W7 w8 := (But.refl f0.blk W7).drew.grown HG.out fun k e _ => .inr e
        have HBt9 : Hid (But f0.blk W7 W9) := by show But _ _ _; rw [hW9]; exact hbt8.setCell (p := ⟨f0.fb, 0, none⟩) (fun _ => .inl rfl) _
        have hnb : ∀ k, (Value.slice p8 (f0.zs.length + m) c8).ownBlock = some k → f0.blk k ∨ W7.heap.size ≤ k := fun k hk => by
          rcases HN.out with h1 | h1
          · exact .inl (.inr (h1.symm.trans hk))
          · exact .inr (h1 k hk)
        have hnf : ∀ k, (Value.slice p8 (f0.zs.length + m) c8).ownBlock = some k → k ≠ f0.fb := fun k hk e => by
          rcases HN.out with h1 | h1
          · exact (HF7.out.rc k (h1.symm.trans hk)).2 e
          · have h2 := h1 k hk
            have h3 := HF7.out.bx.lt
            have h4 : W7.heap.size ≤ k := h2
            omega
        have HFn : Hid (∀ k, f1.blk k → f0.blk k ∨ W7.heap.size ≤ k) := by
          rw [hf1]
          rintro k (hk | hk)
          · exact .inl (.inl hk)
          · have hk' : (Value.slice p8 (f0.zs ++ zs.take m).length c8).ownBlock = some k := hk
            rw [hln] at hk'
            exact hnb k hk'
        have HI9 : Hid (FtI W9 (fun k => Cf k ∨ W7.heap.size ≤ k) f1) := by
          rw [hf1]
          refine ⟨HF7.out.nm, ?_, ?_, ?_, .inl HF7.out.fc, ?_, ?_, ?_⟩
          · show Box W9 f0.fb #[.slice p8 (f0.zs ++ zs.take m).length c8, .int .i64 (f0.sure : Int)] 76
            rw [hln, hW9]
            have h := (HBx7.out w8 HG.out).set 0 (.slice p8 (f0.zs.length + m) c8)
            simpa using h
          · show OwnBy 0 W9 (.slice p8 (f0.zs ++ zs.take m).length c8) (f0.zs ++ zs.take m)
            rw [hln, hW9]
            have h := OwnBy.app (zs := f0.zs) (ys := zs.take m) HF7.out.row (by rw [htl]; exact HO.out)
            exact ownsRow_keep h fun k hk hl => Below.heap_setCell _ _ _ _ (hnf k hk)
          · intro k hk
            have hk' : (Value.slice p8 (f0.zs ++ zs.take m).length c8).ownBlock = some k := hk
            rw [hln] at hk'
            exact ⟨(hnb k hk').imp_left fun e => (HF7.out.blk e).1, hnf k hk'⟩
          · show (f0.zs ++ zs.take m).length ≤ 65536
            rw [hln]
            omega
          · show f0.sure ≤ (f0.zs ++ zs.take m).length
            rw [hln]
            have := HF7.out.su
            omega
          · intro z hz
            rcases List.mem_append.1 hz with h | h
            · exact HF7.out.by_ z h
            · obtain ⟨j, hj⟩ := List.mem_iff_getElem?.1 (List.mem_of_mem_take h)
              have hjl := (List.getElem?_eq_some_iff.1 hj).1
              have := HDat.out.fit j hjl
              rw [List.getD_eq_getElem?_getD, hj] at this
              simp at this
              omega
        have HY9 : Hid (Box W9 w2.heap.size #[.int .u8 (bat t 0), .int .u8 (bat t 1), .int .u8 (bat t 2), .int .u8 (bat t 3), .int .u8 (bat t 4), .int .u8 (bat t 5), .int .u8 (bat t 6), .int .u8 (bat t 7), .int .u8 (bat t 8), .int .u8 (bat t 9), .int .u8 (bat t 10), .int .u8 (bat t 11)] 69) := HY7.out.kept (HBt9.out.block _ HY7.out.lt HYf.out)
        have HF1 := hid hf1
        have HW9 := hid hW9
        have HSz9 : Hid (W7.heap.size ≤ W9.heap.size) := HBt9.out.size
        have HU9 : Hid (DkI W9 (fun k => C k ∨ w.heap.size ≤ k) db (E.upd t f1)) := by
          have h := HD7.out.upd (s := t) (f := f0) (f' := f1) (by unfold fnd; rw [HEfs.out]; exact HFnd.out) (by rw [hf1]) (by rw [hf1]) (by rw [HC5C.out.1]; have h := HI9.out; rw [HC5C.out.2] at h; exact h) HBt9.out HFn.out
          rw [HC5C.out.1] at h
          exact h.mono fun k hk _ => hk.imp_right fun e => Nat.le_trans HB7.out.size e
        have HEn : Hid ((E.upd t f1).ents = E.ents) := by
          show (E.fs.map _).map _ = E.fs.map _
          rw [List.map_map]
          refine List.map_congr_left fun g hg => ?_
          by_cases e : g.name = t
          · have hge : g = f0 := nodup_inj HD7.out.nodup hg (by rw [HEfs.out]; exact (fnd_at HFnd.out).1) (by rw [e, (fnd_at HFnd.out).2])
            simp only [Function.comp, if_pos e]
            rw [hge, hf1]
          · simp only [Function.comp, if_neg e]
        have HEm : Hid ((E.upd t f1).mb = E.mb) := rfl
        have HB9 : Hid (But C w W9) := HB7.out.trans (HBt9.out.mono fun k _ e => HCfC.out k (HF7.out.blk e).1)
        have HM9 : Hid (MpI W9.drew E.mb E.ents) := by
          have h := HU9.out.mp
          rw [HEn.out] at h
          exact h
        have HLk9 : Hid (lk E.ents t = some (.pointer (some ⟨f0.fb, 0, none⟩))) := by show lk E.ents t = _; rw [HEents.out]; exact HLk.out
        have HD9 : Hid (Box W9 db #[.map (some E.mb), .bool E.set, .int .i64 E.units, .int .i64 E.after, .int .i64 E.calls, .bool E.down] 67) := HU9.out.bx
        have d0 := HD9.out.cell 0
        simp at d0
        have y0 := HY9.out.cell 0
        have y1 := HY9.out.cell 1
        have y2 := HY9.out.cell 2
        have y3 := HY9.out.cell 3
        have y4 := HY9.out.cell 4
        have y5 := HY9.out.cell 5
        have y6 := HY9.out.cell 6
        have y7 := HY9.out.cell 7
        have y8 := HY9.out.cell 8
        have y9 := HY9.out.cell 9
        have y10 := HY9.out.cell 10
        have y11 := HY9.out.cell 11
        have yl := HY9.out.lt
        simp at y0 y1 y2 y3 y4 y5 y6 y7 y8 y9 y10 y11
        clear hf1 hW9 hbt8 hnb hnf htl hln
        go_upto_region 11 with fail
        first
          | rw [← HW9.out]
          | (rw [show (w8.setCell ⟨f0.fb, 0, none⟩ (.slice p8 (f0.zs.length + m) c8)).drew = W9.drew from by rw [HW9.out]])
        refine wp_region_calmE 30 (fun wx => Below W9.heap.size W9 wx) [(0, true), (1, true), (2, true), (3, false), (4, false), (5, true)] (.one 6 false [] .done) (by kernel_rfl) (by kernel_rfl) (Below.refl _ _).drew ?_
        refine wpPre_e rfl rfl (fun K1 hK1 => ?_)
        apply Exists.intro
        refine And.intro (fun wx hx => ?_) ?_
        · go_simp
          try rfl
        go_simp
        refine hK1 _ ?_
        clear hK1 K1
        refine wpPre_e rfl rfl (fun K1 hK1 => ?_)
        apply Exists.intro
        refine And.intro (fun wx hx => ?_) ?_
        · go_simp
          try rfl
        go_simp
        refine hK1 _ ?_
        clear hK1 K1
        refine wpPre_e rfl rfl (fun K1 hK1 => ?_)
        apply Exists.intro
        refine And.intro (fun wx hx => ?_) ?_
        · go_simp
          try rfl
        go_simp
        refine hK1 _ ?_
        clear hK1 K1
        refine wpPre_e rfl rfl (fun K1 hK1 => ?_)
        apply Exists.intro
        refine And.intro (fun wx hx => ?_) ?_
        · have e0 := below_fact hx rfl d0
          go_simp
          try rfl
        go_simp
        refine hK1 _ ?_
        clear hK1 K1
        refine wpPre_e rfl rfl (fun K1 hK1 => ?_)
        apply Exists.intro
        refine And.intro (fun wx hx => ?_) ?_
        · have e0 := below_fact hx rfl y0
          have e1 := below_fact hx rfl y1
          have e2 := below_fact hx rfl y2
          have e3 := below_fact hx rfl y3
          have e4 := below_fact hx rfl y4
          have e5 := below_fact hx rfl y5
          have e6 := below_fact hx rfl y6
          have e7 := below_fact hx rfl y7
          have e8 := below_fact hx rfl y8
          have e9 := below_fact hx rfl y9
          have e10 := below_fact hx rfl y10
          have e11 := below_fact hx rfl y11
          go_simp
          try rfl
        go_simp
        refine hK1 _ ?_
        clear hK1 K1
        refine wpPre_e rfl rfl (fun K1 hK1 => ?_)
        apply Exists.intro
        refine And.intro (fun wx hx => ?_) ?_
        · go_simp
          try rfl
        go_simp
        refine hK1 _ ?_
        clear hK1 K1
        refine wpPre_nil ?_
        refine wpTr_e rfl (fun K1 hK1 => ?_)
        refine step_updS rfl (.tmp 80) (.tmp 81) (.tmp 82) rfl (b := E.mb) (Es := E.ents) (s := t) (u := .pointer (some ⟨f0.fb, 0, none⟩)) rfl rfl rfl HM9.out HNm.out HLk9.out (fun wa hma hba => ?_)
        have HMa := hid hma
        have HBa := hid hba
        clear hma hba
        go_simp
        refine hK1 _ _ (fun h => by cases h) ?_
        clear hK1 K1
        refine wpPre_nil ?_
        refine wpTr_done ?_
        clear y0 y1 y2 y3 y4 y5 y6 y7 y8 y9 y10 y11 yl d0
        go_wp2
        have hba9 : But (fun k => k = E.mb) W9 wa := (But.refl _ _).drew.trans HBa.out
        have hE : Chg (E.upd t f1) C db w wa := by
          have hd := DkI.mpx (D := E.upd t f1) HU9.out (by rw [HEn.out]; exact HMa.out) (by rw [HEm.out]; exact hba9)
          refine ⟨hd, HB9.out.cc (hba9.mono (Y := fun k => C k ∨ w.heap.size ≤ k) fun k _ e => by have e' : k = E.mb := e; subst e'; exact HU9.out.cm)⟩
        refine bodyPost_ret (v := .int .i64 pe) (by simp [results, Tryd.results22, go_sem]) rfl ?_
        exact HEND.out wa f1 E pe HPe.out HE0.out (by rw [HF1.out]) (by rw [HF1.out]; show f0.zs ++ zs.take m = f0.zs ++ zs.take (min (payN D1 ((zs.length : Int) + 1)) (zs.length : Int)).toNat; rw [← HPn.out, ← HMe.out]) (by rw [HF1.out]) hE
      · have h1' : (65536 : Int) - (f0.zs.length : Int) < (zs.length : Int) := by omega
        go_wp2
        exact bodyPost_ret (v := .int .i64 104) (by simp [results, Tryd.results22, go_sem]) rfl (.inr (.inr (.inl ⟨HR.out, ⟨f0, HFndD.out, by omega⟩, rfl, HCh5.out⟩)))
end Go.Proofs.YtkfcilandmhomaaDoor
