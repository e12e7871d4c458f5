import Derived.Test.YtdncnnjhfipokabPack19
namespace Go.Proofs.Ytdncnnjhfipokab
open Go.RowKit
set_option maxRecDepth 8000
set_option maxHeartbeats 8000000 in
theorem r_copyS (num : Int) (l : LT VT) (w : World) (S : Nat → Prop) (hin : LT.In elCell w S l) (hs : SzC l) :
    Calls Try.prog 43 #[.agg #[.int .i64 num, .slice l.p l.n l.c]] w fun e w' => ∃ u : LT VT, e = .returned (.agg #[.int .i64 num, .slice u.p u.n u.c]) ∧ LT.Alk VT.Alike l u ∧ LT.In elCell w' (fun b => w.heap.size ≤ b) u ∧ Below w.heap.size w w' := by
  obtain ⟨i0, Kd⟩ := kindLV
  have HKd := hid Kd
  obtain ⟨i1, Kc⟩ := kindLC
  have HKc := hid Kc
  have HI := hid hin
  have HS := hid hs
  have hn1 := hs.n
  have HT := hid (TwoK.start w #[.int .i64 num, .slice l.p l.n l.c] #[.int .i64 0, .slice none 0 0] 42)
  clear hin hs Kd Kc
  go_enter Try.func43, Try.ntmps43
  go_wp2_with fail
  go_loopw [3, 4] (fun v x wo => ∃ (k : Nat) (g : Nat → VT), k ≤ l.n ∧ x = .int .i64 (k : Int) ∧ OwnL elCell (w.heap.size + 2) wo v k g ∧ (∀ q, q < k → VT.Alike (l.item q) (g q)) ∧ TwoK w wo #[.int .i64 num, .slice l.p l.n l.c] #[.int .i64 0, .slice none 0 0] 42) (fun _ x _ => l.n - (intOf x).toNat)
  case atStart => exact ⟨0, l.item, Nat.zero_le _, rfl, ⟨World.ownsRow_nil _ _ _ _, fun j hj => absurd hj (by omega)⟩, fun q hq => absurd hq (by omega), HT.out⟩
  case round =>
    obtain ⟨wo, hwo⟩ : ∃ wo : World, wo = wr := ⟨_, rfl⟩
    subst hwo
    obtain ⟨k, g, hk, rfl, hO, hal, hT⟩ := hrel
    have HO := hid hO
    have HA := hid hal
    have HTr := hid hT
    have ra := hT.ba.lt
    have rb := hT.bb.lt
    have d1 := hT.ba.cell 1
    have fa1 := hT.ba.frozen 1
    simp at d1
    clear hO hal hT
    by_cases hlt : k < l.n
    · have hlt' : (k : Int) < (l.n : Int) := by omega
      obtain ⟨bb, o, hp, hSb, hbb, hat⟩ := HI.out.at_ (by omega)
      rw [hp] at d1
      have r0 : wo.cell? ⟨bb, o + k * 2, none⟩ = some (.string (l.item k).text) := (World.cell?_of_block (a := ⟨bb, o + k * 2, none⟩) (HTr.out.bel.block bb hbb)).trans (hat k hlt 0 _ rfl)
      have r1 : wo.cell? ⟨bb, o + k * 2 + 1, none⟩ = some (.slice (l.item k).p (l.item k).n (l.item k).c) := (World.cell?_of_block (a := ⟨bb, o + k * 2 + 1, none⟩) (HTr.out.bel.block bb hbb)).trans (hat k hlt 1 _ rfl)
      have HIk : Hid (VT.In w S (l.item k)) := HI.out.each k hlt
      have hkt := HS.out.item k hlt
      have hkn : (l.item k).n ≤ 10000 := by rw [VT.total_upto] at hkt; omega
      have HKt := hid hkt
      clear hat hkt hp
      go_wp2_with fail
      have hXc : Box (wo.alloc (.cells #[.string (l.item k).text, .slice none 0 0] 88)) wo.heap.size #[.string (l.item k).text, .slice none 0 0] 88 := Box.new _ _ _
      have hBc : Below wo.heap.size wo (wo.alloc (.cells #[.string (l.item k).text, .slice none 0 0] 88)) := (Below.refl _ _).alloc (Nat.le_refl _) _
      have HXc := hid (And.intro hXc hBc)
      clear hXc hBc
      go_loopw [6] (fun x wr => ∃ (q : Nat) (g2 : Nat → VT) (pv : Option Addr) (cv : Nat), q ≤ (l.item k).n ∧ x = .int .i64 (q : Int) ∧ Box wr wo.heap.size #[.string (l.item k).text, .slice pv q cv] 88 ∧ OwnL elVal (wo.heap.size + 1) wr (.slice pv q cv) q g2 ∧ (∀ j, j < q → VT.Alike ((l.item k).item j) (g2 j)) ∧ Below wo.heap.size wo wr) (fun x _ => (l.item k).n - (intOf x).toNat)
      case atStart => exact ⟨0, (l.item k).item, none, 0, Nat.zero_le _, rfl, HXc.out.1, ⟨World.ownsRow_nil _ _ _ _, fun j hj => absurd hj (by omega)⟩, fun q hq => absurd hq (by omega), HXc.out.2⟩
      case round =>
        obtain ⟨q, g2, pv, cv, hq, rfl, hX, hO2, hal2, hB2⟩ := hrel
        have HX := hid hX
        have HO2 := hid hO2
        have HA2 := hid hal2
        have HB2 := hid hB2
        have xl := hX.lt
        have x0 := hX.cell 0
        have x1 := hX.cell 1
        simp at x0 x1
        have d1 := (World.cell?_of_block (a := ⟨w.heap.size, 1, none⟩) (hB2.block _ ra)).trans d1
        have r1 := (World.cell?_of_block (a := ⟨bb, o + k * 2 + 1, none⟩) (hB2.block bb (by have := HTr.out.bel.size; omega))).trans r1
        clear hX hO2 hal2 hB2 HXc
        by_cases hqn : q < (l.item k).n
        · have hqn' : (q : Int) < ((l.item k).n : Int) := by omega
          obtain ⟨vb, vo, hvp, hvS, hvl, hvat⟩ := HIk.out.at_ (by omega)
          rw [hvp] at r1
          have hvk : wr.heap[vb]? = w.heap[vb]? := (HB2.out.block vb (by have := HTr.out.bel.size; omega)).trans (HTr.out.bel.block vb hvl)
          obtain ⟨v0, v1, v2, v3⟩ := (hvat q hqn).kept hvk
          have HC : Hid (∀ V, Below wr.heap.size wr V → Calls Try.prog 51 #[.agg #[.int .i64 ((l.item k).item q).kind, .int .i64 ((l.item k).item q).int, .string ((l.item k).item q).text, .slice ((l.item k).item q).p ((l.item k).item q).n ((l.item k).item q).c]] V fun e w' => ∃ u : VT, e = .returned (.agg #[.int .i64 u.kind, .int .i64 u.int, .string u.text, .slice u.p u.n u.c]) ∧ VT.Alike ((l.item k).item q) u ∧ VT.In w' (fun b => V.heap.size ≤ b) u ∧ Below V.heap.size V w') := fun V hV =>
            r_deep_any _ V (fun b => S b ∧ b < w.heap.size) (((HIk.out.sub hqn).mono fun b hb hl => ⟨hb, hl⟩).kept (by have := HTr.out.bel.size; have := HB2.out.size; have := hV.size; omega) (fun b hb _ => (hV.block b (by have := HTr.out.bel.size; have := HB2.out.size; omega)).trans ((HB2.out.block b (by have := HTr.out.bel.size; omega)).trans (HTr.out.bel.block b hb.2)))) (Nat.le_trans (VT.item_total _ hqn) HKt.out)
          clear hvat hvp
          go_wp2_with fail
          refine wp_region_calmE 30 (fun wx => Below wr.heap.size wr wx) [(0, true), (1, false), (2, true), (3, false), (4, true), (5, true), (6, true), (7, false), (8, true), (9, true), (10, false)] (.one 11 true [] (.one 12 true [] (.one 13 false [(14, true)] (.one 15 false [] .done)))) (by kernel_rfl) (by kernel_rfl) (Below.refl _ _).drew ?_
          refine wpPre_e rfl rfl (fun K1 hK1 => ?_)
          apply Exists.intro
          refine And.intro (fun wx hx => ?_) ?_
          · go_simp
            try rfl
          go_simp
          refine hK1 _ ?_
          clear hK1 K1
          refine wpPre_e rfl rfl (fun K1 hK1 => ?_)
          apply Exists.intro
          refine And.intro (fun wx hx => ?_) ?_
          · have e0 := below_fact hx rfl x1
            have e1 := below_fact hx rfl d1
            have e2 := below_fact hx rfl r1
            have e3 := below_fact hx rfl v0
            have e4 := below_fact hx rfl v1
            have e5 := below_fact hx rfl v2
            have e6 := below_fact hx rfl v3
            go_simp
            try rfl
          go_simp
          refine hK1 _ ?_
          clear hK1 K1
          refine wpPre_e rfl rfl (fun K1 hK1 => ?_)
          apply Exists.intro
          refine And.intro (fun wx hx => ?_) ?_
          · go_simp
            try rfl
          go_simp
          refine hK1 _ ?_
          clear hK1 K1
          refine wpPre_e rfl rfl (fun K1 hK1 => ?_)
          apply Exists.intro
          refine And.intro (fun wx hx => ?_) ?_
          · have e0 := below_fact hx rfl x1
            have e1 := below_fact hx rfl d1
            have e2 := below_fact hx rfl r1
            have e3 := below_fact hx rfl v0
            have e4 := below_fact hx rfl v1
            have e5 := below_fact hx rfl v2
            have e6 := below_fact hx rfl v3
            go_simp
            try rfl
          go_simp
          refine hK1 _ ?_
          clear hK1 K1
          refine wpPre_e rfl rfl (fun K1 hK1 => ?_)
          apply Exists.intro
          refine And.intro (fun wx hx => ?_) ?_
          · go_simp
            try rfl
          go_simp
          refine hK1 _ ?_
          clear hK1 K1
          refine wpPre_e rfl rfl (fun K1 hK1 => ?_)
          apply Exists.intro
          refine And.intro (fun wx hx => ?_) ?_
          · go_simp
            try rfl
          go_simp
          refine hK1 _ ?_
          clear hK1 K1
          refine wpPre_e rfl rfl (fun K1 hK1 => ?_)
          apply Exists.intro
          refine And.intro (fun wx hx => ?_) ?_
          · go_simp
            try rfl
          go_simp
          refine hK1 _ ?_
          clear hK1 K1
          refine wpPre_e rfl rfl (fun K1 hK1 => ?_)
          apply Exists.intro
          refine And.intro (fun wx hx => ?_) ?_
          · have e0 := below_fact hx rfl x1
            have e1 := below_fact hx rfl d1
            have e2 := below_fact hx rfl r1
            have e3 := below_fact hx rfl v0
            have e4 := below_fact hx rfl v1
            have e5 := below_fact hx rfl v2
            have e6 := below_fact hx rfl v3
            go_simp
            try rfl
          go_simp
          refine hK1 _ ?_
          clear hK1 K1
          refine wpPre_e rfl rfl (fun K1 hK1 => ?_)
          apply Exists.intro
          refine And.intro (fun wx hx => ?_) ?_
          · go_simp
            try rfl
          go_simp
          refine hK1 _ ?_
          clear hK1 K1
          refine wpPre_e rfl rfl (fun K1 hK1 => ?_)
          apply Exists.intro
          refine And.intro (fun wx hx => ?_) ?_
          · go_simp
            try rfl
          go_simp
          refine hK1 _ ?_
          clear hK1 K1
          refine wpPre_e rfl rfl (fun K1 hK1 => ?_)
          apply Exists.intro
          refine And.intro (fun wx hx => ?_) ?_
          · have e0 := below_fact hx rfl x1
            have e1 := below_fact hx rfl d1
            have e2 := below_fact hx rfl r1
            have e3 := below_fact hx rfl v0
            have e4 := below_fact hx rfl v1
            have e5 := below_fact hx rfl v2
            have e6 := below_fact hx rfl v3
            go_simp
            try rfl
          go_simp
          refine hK1 _ ?_
          clear hK1 K1
          refine wpPre_nil ?_
          refine wpTr_e rfl (fun K1 hK1 => ?_)
          refine step_call rfl 51 #[.tmp 42] _ rfl Try.f51 Try.func51 (by kernel_rfl) rfl #[.agg #[.int .i64 ((l.item k).item q).kind, .int .i64 ((l.item k).item q).int, .string ((l.item k).item q).text, .slice ((l.item k).item q).p ((l.item k).item q).n ((l.item k).item q).c]] rfl _ (HC.out _ (Below.refl _ _).drew) (fun e w4 h4 => ?_)
          obtain ⟨u, rfl, hal4, hin4, hb4⟩ := h4
          refine ⟨_, rfl, ?_⟩
          have hb4' : Below wr.heap.size wr w4 := (Below.refl wr.heap.size wr).drew.trans hb4
          have hin4' : VT.In w4 (fun b => wr.heap.size ≤ b) u := hin4
          have HU := hid (And.intro hal4 (And.intro hin4' hb4'))
          have hs4 := hb4'.size
          clear hal4 hin4 hin4' hb4 HC
          go_simp
          refine hK1 _ _ (fun _ => hb4') ?_
          clear hK1 K1
          refine wpPre_nil ?_
          refine wpTr_e rfl (fun K1 hK1 => ?_)
          go_simp
          have hb5 : Below wr.heap.size wr (w4.alloc (.cells #[.int .i64 u.kind, .int .i64 u.int, .string u.text, .slice u.p u.n u.c] 35)) := hb4'.alloc hb4'.size _
          refine hK1 _ _ (fun _ => hb5) ?_
          clear hK1 K1
          refine wpPre_nil ?_
          refine wpTr_e rfl (fun K1 hK1 => ?_)
          have hO5 := HO2.out.keep hb5.size (fun k _ hl => hb5.block k hl)
          have hnews : ∀ j u', (elVal.cells u)[j]? = some u' → (w4.alloc (.cells #[.int .i64 u.kind, .int .i64 u.int, .string u.text, .slice u.p u.n u.c] 35)).cell? ((⟨w4.heap.size, 0, none⟩ : Addr).add j) = some u' := fun j u' hu => by
            rw [Go.WideShapes.add_plain, (Box.new w4 #[.int .i64 u.kind, .int .i64 u.int, .string u.text, .slice u.p u.n u.c] 35).cell]
            rw [show 0 + j = j by omega]
            simpa [elVal, VT.cells] using hu
          have hu5 : VT.In (w4.alloc (.cells #[.int .i64 u.kind, .int .i64 u.int, .string u.text, .slice u.p u.n u.c] 35)) (fun b => wo.heap.size + 1 ≤ b ∧ (Value.slice pv q cv).ownBlock ≠ some b) u := ((HU.out.2.1.below ((Below.refl w4.heap.size w4).alloc (Nat.le_refl _) _)).mono fun b hb _ => ⟨by omega, fun e => by have := (HO2.out.own.lt b e).2; omega⟩)
          have HX5 := hid (And.intro hO5 (And.intro hnews (And.intro hu5 hb5)))
          clear hO5 hnews hu5
          refine step_app rfl (.tmp 33) (.tmp 44) 33 35 i0 _ 4 56 HKd.out rfl (wo.heap.size + 1) (.slice pv q cv) q _ rfl HX5.out.1.own ⟨w4.heap.size, 0, none⟩ 1 1 (elVal.cells u) rfl rfl HX5.out.2.1 (elVal.one u) (by omega) (by omega) (by simp; omega) ?_
          intro v6 w6 ho6 hg6 hn6
          have hO6 := HX5.out.1.push HX5.out.2.2.1 ho6 hg6 hn6
          obtain ⟨p6, c6, rfl⟩ := ownsRow_slice ho6
          have hX5 := HX.out.below HX5.out.2.2.2
          have hX6 := hX5.kept (hg6.block _ hX5.lt (fun e => by have := (HO2.out.own.lt _ e.symm).1; omega))
          have y1 := hX6.cell 1
          have f1 := hX6.frozen 1
          have xl6 := hX6.lt
          simp at y1
          have HX6 := hid (And.intro hX6 hO6)
          have HB6 : Hid (Below wo.heap.size wo w6) := (HB2.out.trans (HX5.out.2.2.2.mono HB2.out.size)).grown hg6 (by simp; omega) (fun k hk => by have := (HO2.out.own.lt k hk).1; omega)
          clear ho6 hg6 hn6 hX5 hX6 hO6 HX5 hb5 hb4'
          go_simp
          refine hK1 _ _ (fun h => by cases h) ?_
          clear hK1 K1
          refine wpPre_e rfl rfl (fun K1 hK1 => ?_)
          apply Exists.intro
          refine And.intro (fun wx hx => ?_) ?_
          · go_simp
            try rfl
          go_simp
          refine hK1 _ ?_
          clear hK1 K1
          refine wpPre_nil ?_
          refine wpTr_e rfl (fun K1 hK1 => ?_)
          go_simp
          refine hK1 _ _ (fun h => by cases h) ?_
          clear hK1 K1
          refine wpPre_nil ?_
          refine wpTr_done ?_
          have hbt : But (fun y => y = wo.heap.size) w6 (w6.setCell ⟨wo.heap.size, 1, none⟩ (.slice p6 (q + 1) c6)) := (But.one w6 _).setAt 1 _
          have HX7 : Hid (Box (w6.setCell ⟨wo.heap.size, 1, none⟩ (.slice p6 (q + 1) c6)) wo.heap.size #[.string (l.item k).text, .slice p6 (q + 1) c6] 88) := by
            have h := HX6.out.1.set 1 (.slice p6 (q + 1) c6)
            unfold Hid
            simpa using h
          have HO7 := hid (HX6.out.2.keep hbt.size (fun k hk hl => hbt.block k hl (by omega)))
          have HB7 : Hid (Below wo.heap.size wo (w6.setCell ⟨wo.heap.size, 1, none⟩ (.slice p6 (q + 1) c6))) := HB6.out.setCell (p := ⟨wo.heap.size, 1, none⟩) (Nat.le_refl _) _
          have HA7 : Hid (∀ j, j < q + 1 → VT.Alike ((l.item k).item j) (if j < q then g2 j else u)) := by
            intro j hj
            by_cases hjq : j < q
            · rw [if_pos hjq]; exact HA2.out j hjq
            · rw [if_neg hjq]
              obtain rfl : j = q := by omega
              exact HU.out.1
          clear hbt HX6 HB6 y1 f1
          generalize w6.setCell ⟨wo.heap.size, 1, none⟩ (.slice p6 (q + 1) c6) = w7 at HX7 HO7 HB7 ⊢
          go_wp2
          go_roundw
          case rel => exact ⟨q + 1, _, p6, c6, by omega, by go_num, HX7.out, HO7.out, HA7.out, HB7.out⟩
          case measure => simp [intOf]; omega
        · obtain rfl : q = (l.item k).n := by omega
          have hqn' : ¬ ((l.item k).n : Int) < ((l.item k).n : Int) := by omega
          have ht2 : TwoK w wr #[.int .i64 num, .slice l.p l.n l.c] #[.int .i64 0, .slice none 0 0] 42 := HTr.out.below HB2.out
          have hO3 := HO.out.keep HB2.out.size (fun k _ hl => HB2.out.block k hl)
          obtain ⟨p2, c2, hv2, hin2⟩ := HO2.out.in_ (by omega)
          cases hv2
          have hfk := HIk.out.fit
          have hcu : VT.In wr (fun b => w.heap.size + 2 ≤ b ∧ u3.ownBlock ≠ some b) (.mk (l.item k).kind (l.item k).int (l.item k).text (l.item k).n pv cv g2) :=
            (LT.toVT (l := ⟨pv, (l.item k).n, cv, g2⟩) hin2 ⟨hfk.k0, hfk.k1, hfk.i0, hfk.i1, hfk.s1, hin2.nc, hin2.nn, hin2.cc, hin2.nil⟩).mono fun b hb _ => ⟨by omega, fun e => by have := (HO.out.own.lt b e).2; omega⟩
          have hac : VT.Alike (l.item k) (.mk (l.item k).kind (l.item k).int (l.item k).text (l.item k).n pv cv g2) := by
            obtain ⟨a1, a2, a3, a4, a5, a6, a7, e⟩ := HIk.out.mk_
            have h := HA2.out
            rw [e] at h ⊢
            exact ⟨rfl, rfl, rfl, rfl, h⟩
          have H2 := hid (And.intro hO3 (And.intro hcu (And.intro hac ht2)))
          have ha : Below wr.heap.size wr (wr.alloc (.cells #[.string (l.item k).text, .slice pv (l.item k).n cv] 88)) := (Below.refl _ _).alloc (Nat.le_refl _) _
          have HAl := hid ha
          have hszi : w.heap.size + 2 ≤ wr.heap.size := by have := HB2.out.size; omega
          have HNw : Hid (∀ j u', (elCell.cells (.mk (l.item k).kind (l.item k).int (l.item k).text (l.item k).n pv cv g2))[j]? = some u' → (wr.alloc (.cells #[.string (l.item k).text, .slice pv (l.item k).n cv] 88)).cell? ((⟨wr.heap.size, 0, none⟩ : Addr).add j) = some u') := fun j u' hu => by
            rw [Go.WideShapes.add_plain, (Box.new wr #[.string (l.item k).text, .slice pv (l.item k).n cv] 88).cell]
            rw [show 0 + j = j by omega]
            simpa [elCell, VT.two, VT.text, VT.p, VT.n, VT.c] using hu
          clear hO3 hcu hac ht2 ha hin2
          go_wp2_with (at_builtin; refine wpList_app rfl (.tmp 47) (.tmp 49) 40 88 i1 _ 2 40 HKc.out rfl (w.heap.size + 2) u3 k _ rfl (H2.out.1.own.alloc _) ⟨wr.heap.size, 0, none⟩ 1 1 (elCell.cells (.mk (l.item k).kind (l.item k).int (l.item k).text (l.item k).n pv cv g2)) rfl rfl HNw.out (elCell.one _) (by omega) (by omega) (by simp; omega) ?_)
          intro v8 w8 ho8 hg8 hn8
          obtain ⟨hO3, hcu, hac, ht2⟩ := H2.out
          have hcu' : elCell.In (wr.alloc (.cells #[.string (l.item k).text, .slice pv (l.item k).n cv] 88)) (fun b => w.heap.size + 2 ≤ b ∧ u3.ownBlock ≠ some b) (VT.mk (l.item k).kind (l.item k).int (l.item k).text (l.item k).n pv cv g2) := hcu.below HAl.out
          have HO8 := hid ((hO3.keep HAl.out.size (fun k _ hl => HAl.out.block k hl)).push hcu' ho8 hg8 hn8)
          have ht3 := ht2.below HAl.out
          have hk8 : ∀ x, x < w.heap.size + 2 → w8.heap[x]? = (wr.alloc (.cells #[.string (l.item k).text, .slice pv (l.item k).n cv] 88)).heap[x]? := fun x hx => hg8.block x (by simp; omega) (fun e => by have := (hO3.own.lt x e.symm).1; omega)
          have HT8 : Hid (TwoK w w8 #[.int .i64 num, .slice l.p l.n l.c] #[.int .i64 0, .slice none 0 0] 42) := ⟨ht3.ba.kept (hk8 _ (by omega)), ht3.bb.kept (hk8 _ (by omega)), ht3.bel.grown hg8 (by simp; omega) (fun k hk => by have := (hO3.own.lt k hk).1; omega)⟩
          have HA8 : Hid (∀ q, q < k + 1 → VT.Alike (l.item q) (if q < k then g q else (.mk (l.item k).kind (l.item k).int (l.item k).text (l.item k).n pv cv g2))) := by
            intro q hq
            by_cases hqk : q < k
            · rw [if_pos hqk]; exact HA.out q hqk
            · rw [if_neg hqk]
              obtain rfl : q = k := by omega
              exact hac
          clear ho8 hg8 hn8 hO3 hcu hcu' hac ht2 ht3 hk8 H2 HAl HNw x0 x1 d1 r1 r0
          go_wp2
          go_roundw
          case rel => exact ⟨k + 1, _, by omega, by go_num, HO8.out, HA8.out, HT8.out⟩
          case measure => simp [intOf]; omega
    · obtain rfl : k = l.n := by omega
      have hlt' : ¬ (l.n : Int) < (l.n : Int) := by omega
      obtain ⟨p3, c3, hv, hin3⟩ := HO.out.in_ (by omega)
      subst hv
      have HIn := hid hin3
      have z0 := HTr.out.bb.cell 0
      have k0 := HTr.out.bb.frozen 0
      have z1 := HTr.out.bb.cell 1
      have k1 := HTr.out.bb.frozen 1
      have d0 := HTr.out.ba.cell 0
      simp at z0 z1 d0
      clear hin3
      go_wp2
      have hT4 := ((HTr.out.setA 1 (.slice p3 l.n c3)).setB 0 (.int .i64 num)).setB 1 (.slice p3 l.n c3)
      have hbt : But (fun x => x = w.heap.size ∨ x = w.heap.size + 1) wo (((wo.setCell ⟨w.heap.size, 1, none⟩ (.slice p3 l.n c3)).setCell ⟨w.heap.size + 1, 0, none⟩ (.int .i64 num)).setCell ⟨w.heap.size + 1, 1, none⟩ (.slice p3 l.n c3)) :=
        (((But.refl _ wo).setCell (fun _ => Or.inl rfl) _).setCell (fun _ => Or.inr rfl) _).setCell (fun _ => Or.inr rfl) _
      refine bodyPost_ret (v := .agg #[.int .i64 num, .slice p3 l.n c3]) (by simp [results, Try.results43, go_sem, z0, z1]) rfl ⟨⟨p3, l.n, c3, g⟩, rfl, ⟨rfl, HA.out⟩, ?_, hT4.bel⟩
      exact (HIn.out.kept hbt.size (fun b hb hl => hbt.block b hl (by omega))).mono (S' := fun b => w.heap.size ≤ b) (fun b hb _ => by omega)
end Go.Proofs.Ytdncnnjhfipokab
