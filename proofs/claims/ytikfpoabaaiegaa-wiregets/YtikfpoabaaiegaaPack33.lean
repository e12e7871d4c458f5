import Derived.Test.YtikfpoabaaiegaaPack32
import Derived.Test.YtikfpoabaaiegaaPack9
import Derived.Test.YtikfpoabaaiegaaPack23
import Derived.Test.YtikfpoabaaiegaaPack8
namespace Go.Proofs.Ytikfpoabaaiegaa
open Go.RowKit
set_option maxRecDepth 8000
theorem bag_row {y : Nat × RT} {B R : List Int} {V : List VT} (h : outS B = .ok (y, R)) (hB : Byt B) (hv : VAl (dOut y).V V) : ∃ q : BRec, OkR y.2 q ∧ y.1 ≤ 1073741824 ∧ lft (dOut y).N (dOut y).K V 0 0 0 = numsG (y.1 : Int) (bagRs [q] gNil) := by
  obtain ⟨_, M, h1, h⟩ := bind_ok h
  obtain ⟨a, M2, h2, h⟩ := bind_ok h
  obtain ⟨r, M3, h3, h⟩ := bind_ok h
  obtain ⟨rfl, rfl⟩ := ret_ok h
  rw [first_ok h1] at hB
  have hM := hB.tail
  obtain ⟨a1, a2⟩ := num_ok h2 hM
  rw [a1] at hM
  obtain ⟨V1, V2, rfl, hv1, hv2⟩ := VAl.split (A := (dNum a).V) (B := (dRec r).V) hv
  obtain ⟨q, hq, hg⟩ := put_rec (rec_small h3 hM.right) hv2
  refine ⟨q, hq, a2, ?_⟩
  rw [put_whole]
  show Put (Bg.add (dNum a) (dRec r)) (V1 ++ V2) gNil = _
  rw [put_add, hv1.none_, show gNil = bagRs [] gNil from rfl, hg]
  rfl
set_option maxHeartbeats 8000000 in
theorem refGetRow (w : World) (S : Nat → Prop) (p : Option Addr) (c : Nat) (B : List Int) (hB : Byts w S p B.length c (fun j => B.getD j 0)) (hS : ∀ b, S b → b < w.heap.size) (hl : B.length ≤ 1000000) (hBy : Byt B) : Calls Try.prog 27 #[.slice p B.length c] w fun x w' => ∃ t k, x = .returned (.tuple #[OT.val t, .int .i64 k]) ∧ GetP outS OT.val zOT OT.In (fun o y => o.num = y.1 ∧ RT.Alike y.2 o.rec_) w B t k w' := by
  have ha : Below w.heap.size w (w.alloc (.cells #[.int .i64 0, .string ⟨#[]⟩, .int .i64 0, .int .i64 0, .string ⟨#[]⟩, .slice none 0 0, .slice none 0 0] 43)) := (Below.refl _ _).alloc (Nat.le_refl _) _
  have hz0 : (w.alloc (.cells #[.int .i64 0, .string ⟨#[]⟩, .int .i64 0, .int .i64 0, .string ⟨#[]⟩, .slice none 0 0, .slice none 0 0] 43)).heap.size = w.heap.size + 1 := by simp
  have hs : walkR 6 (txL ⟨#[79, 110, 107, 118, 91, 97, 104, 93]⟩) ⟨[], [], []⟩ = bindS outS fun r => retS (dOut r) := walk_out 0
  have HC := hid (refGet_any (w.alloc (.cells #[.int .i64 0, .string ⟨#[]⟩, .int .i64 0, .int .i64 0, .string ⟨#[]⟩, .slice none 0 0, .slice none 0 0] 43)) S p c B (hB.kept ha.size fun b _ hl => ha.block b hl) (fun b hb => by have := hS b hb; omega) hl 6 ⟨#[79, 110, 107, 118, 91, 97, 104, 93]⟩ (by decide) (by decide) (by rw [hs]; exact (low_bind low_out fun _ => low_ret _).no B))
  rw [hs] at HC
  have HA := hid ha
  have HV := hid (Box.new w #[.int .i64 0, .string ⟨#[]⟩, .int .i64 0, .int .i64 0, .string ⟨#[]⟩, .slice none 0 0, .slice none 0 0] 43)
  have HBy := hid hBy
  clear hB hS ha hs hBy
  obtain ⟨n, hn⟩ : ∃ n, n = B.length := ⟨_, rfl⟩
  rw [← hn] at HC ⊢
  have HNl := hid (And.intro hn hl)
  clear hn hl
  go_enter Try.func27, Try.ntmps27
  go_wp2_with fail
  refine HC.out.mono ?_
  rintro x w1 ⟨k, rfl, hg⟩
  clear HC
  have hb1 := hg.bel
  have HB1 := hid hb1
  have HG := hid hg
  have hs1 := hb1.size
  by_cases hk : k = 0
  · subst hk
    cases hZ : outS B with
    | error e =>
      obtain ⟨h1, h2⟩ := hg.bad e (by unfold bindS; rw [hZ])
      omega
    | ok z =>
      obtain ⟨r, R⟩ := z
      cases R with
      | cons z R =>
        have := hg.more (dOut r) z R (by unfold bindS; rw [hZ]; rfl)
        omega
      | nil =>
        obtain ⟨_, ⟨a, b, d, V', hG, hva⟩, hfew⟩ := hg.good (dOut r) (by unfold bindS; rw [hZ]; rfl)
        rw [hz0] at hG
        have hrb := hG.box.lt
        have hN1 := hfew.N
        have hK1 := hfew.K
        have hV1 := hfew.V
        have hV2 := hva.1
        have hll := HNl.out.2
        have hnn := HNl.out.1
        have HZr := hid hZ
        have HV1 := hid (HV.out.below hb1)
        obtain ⟨q, hq, hqn, hq2⟩ := bag_row hZ HBy.out hva
        obtain ⟨hn0, hlf⟩ := numsG_at hq2
        have HQ3 := hid (And.intro hq.2 hqn)
        have HN := hid (refNum3 hG (GW.start hG) (by omega) hn0)
        have HR := hid (fun W hb => refRecord4 (w := W) hG hb (by omega) (by omega) (by omega) hlf hq.1)
        clear hb1 hg hG hva hfew hq hq2 hn0 hlf hqn hN1 hK1 hV1 hV2 hll hnn hZ
        go_wp2_with fail
        refine HN.out.mono ?_
        rintro x w2 ⟨rfl, hb2, hbut2⟩
        have HR2 := hid (HR.out w2 hb2)
        have HV2 := hid (HV1.out.but hbut2 (by omega))
        have HBu2 := hid hbut2
        have hs2 := hbut2.size
        clear hb2 hbut2 HN HR HV1
        go_wp2_with fail
        refine HR2.out.mono ?_
        rintro x w3 ⟨t, rfl, his, hin, hgw, _, hbu⟩
        have hv := HV2.out.but hbu (by omega)
        have HT := hid (And.intro his hin)
        have HBu := hid (HBu2.out.trans hbu)
        have hs3 := hbu.size
        clear his hin hgw hbu HR2 HV2 HBu2
        have c0 := hv.cell 0
        have f0 := hv.frozen 0
        have c1 := hv.cell 1
        have f1 := hv.frozen 1
        have c2 := hv.cell 2
        have f2 := hv.frozen 2
        have c3 := hv.cell 3
        have f3 := hv.frozen 3
        have c4 := hv.cell 4
        have f4 := hv.frozen 4
        have c5 := hv.cell 5
        have f5 := hv.frozen 5
        have c6 := hv.cell 6
        have f6 := hv.frozen 6
        simp only [List.getElem?_toArray, List.getElem?_cons_zero, List.getElem?_cons_succ] at c0 c1 c2 c3 c4 c5 c6
        have zz := set7_box hv (.int .i64 (r.1 : Int)) (.string t.key) (.int .i64 t.v.kind) (.int .i64 t.v.int) (.string t.v.text) (.slice t.v.p t.v.n t.v.c) (.slice t.p t.n t.c)
        have r0' := zz.cell 0
        have r1' := zz.cell 1
        have r2' := zz.cell 2
        have r3' := zz.cell 3
        have r4' := zz.cell 4
        have r5' := zz.cell 5
        have r6' := zz.cell 6
        simp only [List.getElem?_toArray, List.getElem?_cons_zero, List.getElem?_cons_succ] at r0' r1' r2' r3' r4' r5' r6'
        have HZ := hid (And.intro r0' (And.intro r1' (And.intro r2' (And.intro r3' (And.intro r4' (And.intro r5' r6'))))))
        clear zz r0' r1' r2' r3' r4' r5' r6'
        clear hv
        unfold RT.val
        go_wp2
        obtain ⟨r0', r1', r2', r3', r4', r5', r6'⟩ := HZ.out
        have hfin := But.sets7 w3 w.heap.size (.int .i64 (r.1 : Int)) (.string t.key) (.int .i64 t.v.kind) (.int .i64 t.v.int) (.string t.v.text) (.slice t.v.p t.v.n t.v.c) (.slice t.p t.n t.c)
        have hb12 : Below w.heap.size w1 w3 := HBu.out.below (by omega) (fun k hk e => by omega)
        have hbf : Below w.heap.size w _ := ((HA.out.trans (HB1.out.mono (by omega))).trans hb12).trans (hfin.below (by omega) (fun k hk e => by omega))
        refine bodyPost_ret (v := .tuple #[OT.val ⟨r.1, t⟩, .int .i64 0]) (by simp [results, Try.results27, go_sem, OT.val, r0', r1', r2', r3', r4', r5', r6']) rfl ⟨⟨r.1, t⟩, 0, rfl, hbf, ?_, fun y hy => ?_, fun y z R hy => ?_, fun e he => ?_⟩
        · exact ⟨HQ3.out.2, RT.In.mono (RT.In.but HT.out.2 hfin (fun b hb _ e => by omega)) (fun b hb _ => by omega)⟩
        · rw [HZr.out] at hy; cases hy; exact ⟨rfl, rfl, HQ3.out.1 t HT.out.1⟩
        · rw [HZr.out] at hy; cases hy
        · rw [HZr.out] at he; cases he
  · have hk' : (k == 0) = false := by simpa using hk
    have hv := HV.out.below hb1
    clear hb1 hg
    have c0 := hv.cell 0
    have f0 := hv.frozen 0
    have c1 := hv.cell 1
    have f1 := hv.frozen 1
    have c2 := hv.cell 2
    have f2 := hv.frozen 2
    have c3 := hv.cell 3
    have f3 := hv.frozen 3
    have c4 := hv.cell 4
    have f4 := hv.frozen 4
    have c5 := hv.cell 5
    have f5 := hv.frozen 5
    have c6 := hv.cell 6
    have f6 := hv.frozen 6
    simp only [List.getElem?_toArray, List.getElem?_cons_zero, List.getElem?_cons_succ] at c0 c1 c2 c3 c4 c5 c6
    have zz := set7_box hv (.int .i64 0) (.string ⟨#[]⟩) (.int .i64 0) (.int .i64 0) (.string ⟨#[]⟩) (.slice none 0 0) (.slice none 0 0)
    have r0' := zz.cell 0
    have r1' := zz.cell 1
    have r2' := zz.cell 2
    have r3' := zz.cell 3
    have r4' := zz.cell 4
    have r5' := zz.cell 5
    have r6' := zz.cell 6
    simp only [List.getElem?_toArray, List.getElem?_cons_zero, List.getElem?_cons_succ] at r0' r1' r2' r3' r4' r5' r6'
    have HZ := hid (And.intro r0' (And.intro r1' (And.intro r2' (And.intro r3' (And.intro r4' (And.intro r5' r6'))))))
    clear zz r0' r1' r2' r3' r4' r5' r6'
    clear hv
    go_wp2
    obtain ⟨r0', r1', r2', r3', r4', r5', r6'⟩ := HZ.out
    have hfin := But.sets7 w1 w.heap.size (.int .i64 0) (.string ⟨#[]⟩) (.int .i64 0) (.int .i64 0) (.string ⟨#[]⟩) (.slice none 0 0) (.slice none 0 0)
    have hbf : Below w.heap.size w _ := (HA.out.trans (HB1.out.mono (by omega))).trans (hfin.below (by omega) (fun k hk e => by omega))
    refine bodyPost_ret (v := .tuple #[.agg #[.int .i64 0, .string ⟨#[]⟩, .int .i64 0, .int .i64 0, .string ⟨#[]⟩, .slice none 0 0, .slice none 0 0], .int .i64 k]) (by simp [results, Try.results27, go_sem, r0', r1', r2', r3', r4', r5', r6']) rfl ⟨zOT, k, rfl, hbf, in_zOT _ _, fun y hy => ?_, fun y z R hy => ?_, fun e he => ?_⟩
    · exact absurd (HG.out.good (dOut y) (by unfold bindS; rw [hy]; rfl)).1 hk
    · exact ⟨HG.out.more (dOut y) z R (by unfold bindS; rw [hy]; rfl), rfl⟩
    · obtain ⟨a, b⟩ := HG.out.bad e (by unfold bindS; rw [he])
      exact ⟨a, b, rfl⟩
end Go.Proofs.Ytikfpoabaaiegaa

namespace Go.Proofs.Ytikfpoabaaiegaa
open Go.RowKit
set_option maxRecDepth 8000
theorem GM.vinAt {w0 : World} {rb : Nat} {w1 W : World} {bv : Value} {pa : Int} {a b c : Value} {N : List Int} {K : List ByteArray} {V : List VT} {i j k m : Nat} {x : VT} (h : GM w0 rb w1 bv pa 0 a b c N K V) (hb : GW rb w1 W bv pa a b c i j k) (hi : V[m]? = some x) : VT.In W (fun b => rb < b ∧ b < w1.heap.size) x := by
  have hv := h.vin _ (List.mem_of_getElem? hi)
  have hv1 := hv.mono (S' := fun b => rb < b ∧ b < w1.heap.size) fun b hb hl => ⟨hb.1, hl⟩
  exact hv1.kept hb.but.size fun b hb2 hl => hb.but.block b hl (by omega)
set_option maxHeartbeats 8000000 in
theorem refCells3 {w0 : World} {rb : Nat} {w1 w : World} {bv : Value} {pa : Int} {a b c : Value} {N : List Int} {K : List ByteArray} {V : List VT} {i j k : Nat} {rs : List BCel} {g : Bg} (h : GM w0 rb w1 bv pa 0 a b c N K V) (hb : GW rb w1 w bv pa a b c i j k) (hlN : N.length ≤ 1000000) (hlK : K.length ≤ 1000000) (hlV : V.length ≤ 1000000) (hG : lft N K V i j k = numsG (rs.length : Int) (bagCs rs g)) (hok : ∀ r ∈ rs, r.Ok) (hl : rs.length ≤ 1000000) :
    Calls Try.prog 69 #[.pointer (some ⟨rb, 3, none⟩)] w fun e w' => ∃ l : LT VT, e = .returned (.slice l.p l.n l.c) ∧ TkO elCell BCel.Is rb w1 w bv pa a b c N K V rs g l w' := by
  obtain ⟨i0, Kd⟩ := kindCe
  have HKd := hid Kd
  obtain ⟨iV, KdV⟩ := kindV
  have HKV := hid KdV
  have H := hid h
  have hrw := hb.box.lt
  obtain ⟨hn, hG2⟩ := numsG_at hG
  have HN1 := hid (refNum3 h hb (by omega) hn)
  have HBw := hid hb.but
  have HOk := hid hok
  have HG := hid hG2
  clear hb hn hG hG2 h hok Kd KdV
  obtain ⟨n, hnl⟩ : ∃ n, n = rs.length := ⟨_, rfl⟩
  rw [← hnl] at HN1
  go_enter Try.func69, Try.ntmps69
  go_wp2_with fail
  refine HN1.out.mono ?_
  rintro e w2 ⟨rfl, hb2, hbut2⟩
  have HL2 : Hid (TkL (elCell.wth (fun b => b < w1.heap.size ∨ w.heap.size ≤ b)) BCel.Is bagCs rb w1 w w2 bv pa a b c N K V rs g (.slice none 0 0) 0 (fun _ => .nil) (i + 1) j k) := ⟨⟨World.ownsRow_nil w2 (rb + 1) _ _, fun _ h => absurd h (by omega)⟩, fun _ h => (by cases h), fun _ _ h => absurd h (by omega), hb2, HG.out, hbut2⟩
  clear hb2 hbut2 HN1 HG
  go_wp2_with fail
  go_loopw [3, 5] (fun v x wr => ∃ (t i j k : Nat) (it : Nat → VT), t ≤ n ∧ x = .int .i64 (t : Int) ∧ TkL (elCell.wth (fun b => b < w1.heap.size ∨ w.heap.size ≤ b)) BCel.Is bagCs rb w1 w wr bv pa a b c N K V rs g v t it i j k) (fun _ x _ => n - (intOf x).toNat)
  case atStart => exact ⟨0, _, _, _, _, Nat.zero_le _, rfl, HL2.out⟩
  case round =>
    obtain ⟨wo, rfl⟩ : ∃ wo, wo = wr := ⟨wr, rfl⟩
    obtain ⟨t, i3, j3, k3, it, ht, rfl, hL⟩ := hrel
    clear HL2
    have HL := hid hL
    clear hL
    by_cases htn : t < n
    · have htn' : (t : Int) < (n : Int) := by omega
      have htr : t < rs.length := by omega
      have HRt : Hid (rs[t]? = some rs[t]) := List.getElem?_eq_getElem htr
      have hlf := HL.out.left
      rw [List.drop_eq_getElem_cons htr] at hlf
      have HOr := hid (HOk.out _ (List.getElem_mem htr))
      generalize rs[t] = r at HRt hlf HOr
      obtain ⟨m, hm⟩ : ∃ m, m = r.vs.length := ⟨_, rfl⟩
      obtain ⟨g1, g2, g3⟩ := bagCs_cons hlf
      rw [← hm] at g2
      have hm1 : m ≤ 1000 := by have := HOr.out.2; omega
      have HG3 := hid g3
      have HGn := hid g2
      have HK1 := hid (refKey3 H.out HL.out.gw (by omega) g1)
      have hrr : rb < wo.heap.size := HL.out.gw.box.lt
      clear g1 g2 g3 hlf
      go_wp2_with fail
      refine HK1.out.mono ?_
      rintro e w4 ⟨rfl, hb4, hbut4⟩
      have hal4 : Below w4.heap.size w4 (w4.alloc (.cells #[.string r.key, .slice none 0 0] 154)) := (Below.refl _ _).alloc (Nat.le_refl _) _
      have HN4 := hid (refNum3 H.out (hb4.kept hal4) (by omega) HGn.out)
      have HQ4 := hid (Box.new w4 #[.string r.key, .slice none 0 0] 154)
      have hs4 := hbut4.size
      have HBu4 : Hid (But (fun q => q = rb) wo (w4.alloc (.cells #[.string r.key, .slice none 0 0] 154))) := hbut4.trans (But.ofBelow hal4)
      clear hb4 hbut4 hal4 HK1 HGn
      go_wp2_with fail
      refine HN4.out.mono ?_
      rintro e w5 ⟨rfl, hb5, hbut5⟩
      obtain ⟨q, hq⟩ : ∃ q, q = w4.heap.size := ⟨_, rfl⟩
      rw [← hq] at HQ4 hs4 ⊢
      have hqr : q ≠ rb := by omega
      have HQ5 := hid (HQ4.out.but hbut5 hqr)
      have HI5 : Hid (TkL (elVal.under w1.heap.size) (fun x y => y = x) bagVs rb w1 wo w5 bv pa a b c N K V r.vs (bagCs (rs.drop (t + 1)) g) (.slice none 0 0) 0 (fun _ => .nil) (i3 + 1) (j3 + 1) k3) := ⟨⟨World.ownsRow_nil w5 (rb + 1) _ _, fun _ h => absurd h (by omega)⟩, fun _ h => (by cases h), fun _ _ h => absurd h (by omega), hb5, HG3.out, HBu4.out.trans hbut5⟩
      clear hb5 hbut5 HN4 HQ4 HBu4 hq HG3
      go_wp2_with fail
      go_loopw [8] (fun y wr => ∃ (u i j k : Nat) (v : Value) (it : Nat → VT), u ≤ m ∧ y = .int .i64 (u : Int) ∧ Box wr q #[.string r.key, v] 154 ∧ (∀ o, v.ownBlock = some o → q < o) ∧ TkL (elVal.under w1.heap.size) (fun x y => y = x) bagVs rb w1 wo wr bv pa a b c N K V r.vs (bagCs (rs.drop (t + 1)) g) v u it i j k) (fun y _ => m - (intOf y).toNat)
      case atStart => exact ⟨0, _, _, _, _, _, Nat.zero_le _, rfl, HQ5.out, fun _ h => (by cases h), HI5.out⟩
      case round =>
        obtain ⟨u, i6, j6, k6, v, it6, hu, rfl, hqb, hqo, hI⟩ := hrel
        clear HQ5 HI5
        obtain ⟨pv, cv, rfl⟩ := ownsRow_slice hI.own.own
        have d0 := hqb.cell 0
        have d1 := hqb.cell 1
        simp at d0 d1
        have hqs := hqb.lt
        have HI := hid hI
        by_cases hum : u < m
        · have hum' : (u : Int) < (m : Int) := by omega
          have hur : u < r.vs.length := by omega
          have HXt : Hid (r.vs[u]? = some r.vs[u]) := List.getElem?_eq_getElem hur
          have hlf := hI.left
          rw [List.drop_eq_getElem_cons hur] at hlf
          generalize r.vs[u] = x at HXt hlf
          obtain ⟨g1, g2⟩ := bagVs_cons hlf
          have HVt := hid (refVal3 H.out hI.gw.drew (by omega) g1)
          have HV1 := hid g1
          have HLf := hid g2
          have HS := hid (And.intro hqb hqo)
          clear hqb hqo hI hlf g1 g2 d0
          go_wp2_with fail
          refine wp_region_calmE 30 (fun wx => wx.cell? ⟨q, 1, none⟩ = some (.slice pv u cv)) [(0, true), (1, false), (2, true)] (.one 3 true [] (.one 4 true [] (.one 5 false [(6, true)] (.one 7 false [] .done)))) (by kernel_rfl) (by kernel_rfl) d1 ?_
          refine wpPre_e rfl rfl (fun K1 hK1 => ?_)
          apply Exists.intro
          refine And.intro (fun wx hx => ?_) ?_
          · go_simp
            try rfl
          go_simp
          refine hK1 _ ?_
          clear hK1 K1
          refine wpPre_e rfl rfl (fun K1 hK1 => ?_)
          apply Exists.intro
          refine And.intro (fun wx hx => ?_) ?_
          · have e0 := hx.resolve_left (by decide)
            go_simp
            try rfl
          go_simp
          refine hK1 _ ?_
          clear hK1 K1
          refine wpPre_e rfl rfl (fun K1 hK1 => ?_)
          apply Exists.intro
          refine And.intro (fun wx hx => ?_) ?_
          · go_simp
            try rfl
          go_simp
          refine hK1 _ ?_
          clear hK1 K1
          refine wpPre_nil ?_
          refine wpTr_e rfl (fun K1 hK1 => ?_)
          refine step_call rfl 95 #[.tmp 28] _ rfl Try.f95 Try.func95 (by kernel_rfl) rfl #[.pointer (some ⟨rb, 3, none⟩)] rfl _ HVt.out (fun e w6 h6 => ?_)
          obtain ⟨rfl, hb6, hbut6⟩ := h6
          have hbut6' : But (fun q => q = rb) wr w6 := (But.refl _ _).drew.trans hbut6
          have hqb6 := HS.out.1.but hbut6' hqr
          have e5 := hqb6.cell 1
          simp at e5
          refine ⟨_, rfl, ?_⟩
          unfold VT.val
          go_simp
          refine hK1 _ _ (fun _ => e5) ?_
          clear hK1 K1 hbut6 HVt
          refine wpPre_nil ?_
          have hal6 : Below w6.heap.size w6 (w6.alloc (.cells #[.int .i64 x.kind, .int .i64 x.int, .string x.text, .slice x.p x.n x.c] 24)) := (Below.refl _ _).alloc (Nat.le_refl _) _
          have hqb7 := hqb6.below hal6
          have e6 := hqb7.cell 1
          simp at e6
          have hov7 : (w6.alloc (.cells #[.int .i64 x.kind, .int .i64 x.int, .string x.text, .slice x.p x.n x.c] 24)).ownsRow (rb + 1) 24 4 (.slice pv u cv) u ((List.range u).flatMap fun j => (elVal.under w1.heap.size).cells (it6 j)) := ownsRow_keep (ownsRow_keep HI.out.own.own (fun g hg hl => hbut6'.block g hl (by have := (HI.out.own.own.lt g hg).1; omega))) (fun g hg hl => hal6.block g hl)
          have HNw := hid (new_many0 w6 [.int .i64 x.kind, .int .i64 x.int, .string x.text, .slice x.p x.n x.c] 24)
          have hq7 := hqb7.lt
          have hqs6 := hqb6.lt
          have hrb6 := hb6.box.lt
          refine wpTr_e rfl (fun K1 hK1 => ?_)
          go_simp
          refine hK1 _ _ (fun _ => e6) ?_
          clear hK1 K1
          refine wpPre_nil ?_
          refine wpTr_e rfl (fun K1 hK1 => ?_)
          refine step_app rfl (.tmp 27) (.tmp 30) 22 24 iV _ 4 56 HKV.out rfl (rb + 1) _ u _ rfl hov7 ⟨w6.heap.size, 0, none⟩ 1 1 [.int .i64 x.kind, .int .i64 x.int, .string x.text, .slice x.p x.n x.c] rfl rfl HNw.out ((elVal).one x) (by omega) (by omega) (by simp; omega) ?_
          intro v3 w8 ho3 hg3 hn3
          have hqb8 := hqb7.kept (hg3.block q hq7 fun e => by have := HS.out.2 q e.symm; omega)
          have ho9 : ∀ o, v3.ownBlock = some o → q < o := fun o ho => by
            rcases hn3 with e | e
            · exact HS.out.2 o (e ▸ ho)
            · have := e o ho
              omega
          have HT8 := hid (HI.out.step HL.out.gw.but HXt.out hrr rfl (VT.In.mono (H.out.vinAt hb6 HV1.out) fun b hb _ => ⟨⟨hb.1, .inl hb.2⟩, hb.2⟩) hb6 HLf.out hbut6' ho3 hg3 hn3)
          obtain ⟨p3, c3, rfl⟩ := ownsRow_slice ho3
          have y5 := hqb8.cell 1
          have g5 := hqb8.frozen 1
          simp at y5
          go_simp
          refine hK1 _ _ (fun h => by cases h) ?_
          clear hK1 K1
          refine wpPre_e rfl rfl (fun K1 hK1 => ?_)
          apply Exists.intro
          refine And.intro (fun wx hx => ?_) ?_
          · go_simp
            try rfl
          go_simp
          refine hK1 _ ?_
          clear hK1 K1
          refine wpPre_nil ?_
          refine wpTr_e rfl (fun K1 hK1 => ?_)
          go_simp
          refine hK1 _ _ (fun h => by cases h) ?_
          clear hK1 K1
          refine wpPre_nil ?_
          refine wpTr_done ?_
          have hbq : But (fun y => y = q) w8 (w8.setCell ⟨q, 1, none⟩ (.slice p3 (u + 1) c3)) := (But.one w8 q).setAt 1 _
          have HQ9 : Hid (Box (w8.setCell ⟨q, 1, none⟩ (.slice p3 (u + 1) c3)) q #[.string r.key, .slice p3 (u + 1) c3] 154) := by
            have h9 := hqb8.set 1 (.slice p3 (u + 1) c3)
            unfold Hid
            simpa using h9
          have HT9 := hid (HT8.out.one HL.out.gw.but (by omega) hrr ho9 hbq)
          have HO9 := hid ho9
          clear hbq hqb8 hqb7 hqb6 hov7 hg3 ho3 hn3 HS hb6 hbut6' hal6 HNw e5 e6 y5 g5 d1 HT8 ho9 HI HXt HV1 HLf
          generalize w8.setCell ⟨q, 1, none⟩ (.slice p3 (u + 1) c3) = w9 at HQ9 HT9 ⊢
          go_wp2
          go_roundw
          case rel => exact ⟨u + 1, _, _, _, _, _, by omega, by go_num, HQ9.out, HO9.out, HT9.out⟩
          case measure => simp [intOf]; omega
        · obtain rfl : u = m := by omega
          have hum' : ¬ (u : Int) < (u : Int) := by omega
          rw [hm] at hI
          obtain ⟨x, hv, hxk, his, hin, hlf⟩ := hI.vals HOr.out
          rw [← hm] at hv
          rw [hv] at d1
          have HX := hid (And.intro his (And.intro hin (And.intro hI.gw (And.intro hlf hI.but))))
          have hbuI := hI.but
          have hrow : wr.ownsRow (rb + 1) 154 2 u3 t ((List.range t).flatMap fun j => (elCell).cells (it j)) := ownsRow_keep HL.out.own.own fun k hk hl => hbuI.block k hl (by have := (HL.out.own.own.lt k hk).1; omega)
          have HRow := hid hrow
          have hsI := hbuI.size
          rw [← hxk] at d0
          clear hqb hqo hI HI his hin hlf hrow hbuI hv hxk
          go_wp2_with (at_builtin; refine wpList_app rfl (.tmp 33) (.tmp 35) 28 154 i0 _ 2 40 HKd.out rfl (rb + 1) u3 t _ rfl (HRow.out.alloc _) ⟨wr.heap.size, 0, none⟩ 1 1 ([.string x.text, .slice x.p x.n x.c]) rfl rfl (fun j x hx => by rw [cell_new, ← hx]; simp) ((elCell).one x) (by omega) (by omega) (by simp; omega) ?_)
          intro v3 w3 ho3 hg3 hn3
          have HL3 := hid (HL.out.step HBw.out HRt.out hrw HX.out.1 (VT.In.mono HX.out.2.1 fun b hb _ => ⟨hb, Or.imp_right (fun h => Nat.le_trans HL.out.but.size h) hb.2⟩) HX.out.2.2.1 HX.out.2.2.2.1 HX.out.2.2.2.2 ho3 hg3 hn3)
          clear ho3 hg3 hn3 HRow HX HL HRt
          go_wp2
          go_roundw
          case rel => exact ⟨t + 1, _, _, _, _, by omega, by go_num, HL3.out⟩
          case measure => simp [intOf]; omega
    · obtain rfl : t = n := by omega
      have htn' : ¬ (t : Int) < (t : Int) := by omega
      have hL := HL.out
      rw [hnl] at hL
      obtain ⟨l, hv, hT⟩ := hL.done (bagCs_nil g) (by omega)
      have HT := hid hT
      clear hT hL HL
      subst hv
      go_wp2
      go_ret
      exact ⟨l, rfl, HT.out⟩
end Go.Proofs.Ytikfpoabaaiegaa

namespace Go.Proofs.Ytikfpoabaaiegaa
open Go.RowKit
set_option maxRecDepth 8000
theorem bag_cells {n : Nat} {ys : List VT} {V : List VT} (hs : ∀ c ∈ ys, SmC c) (hv : VAl (dSt (mkS n ys)).V V) : ∃ qs : List BCel, All OkC ys qs ∧ ∀ g, Put (dSt (mkS n ys)) V g = numsG (n : Int) (numsG (qs.length : Int) (bagCs qs g)) := by
  rw [dSt_mk] at hv ⊢
  obtain ⟨V1, V2, rfl, hv1, hv2⟩ := VAl.split (A := (dNum n).V) (B := (dList dCel ys).V) hv
  obtain ⟨qs, hq, hg⟩ := put_cels ys hs V2 hv2
  refine ⟨qs, hq, fun g => ?_⟩
  rw [put_add, hv1.none_, hg]
  rfl
theorem bag_state {y : ST} {B R : List Int} {V : List VT} (h : stateS B = .ok (y, R)) (hB : Byt B) (hv : VAl (dSt y).V V) : ∃ (m : Nat) (ys : List VT) (qs : List BCel), y = mkS m ys ∧ All OkC ys qs ∧ qs.length ≤ 64 ∧ m ≤ 1073741824 ∧ ∀ g, Put (dSt y) V g = numsG (m : Int) (numsG (qs.length : Int) (bagCs qs g)) := by
  obtain ⟨a, M, h2, h⟩ := bind_ok h
  obtain ⟨ys, M2, h3, h⟩ := bind_ok h
  obtain ⟨rfl, rfl⟩ := ret_ok h
  obtain ⟨a1, a2⟩ := num_ok h2 hB
  rw [a1] at hB
  obtain ⟨h4, h5⟩ := cells_small h3 hB.right
  obtain ⟨qs, hq, hg⟩ := bag_cells h5 hv
  exact ⟨a, ys, qs, rfl, hq, by rw [hq.1]; exact h4, a2, hg⟩
theorem TkO.alike {rb : Nat} {w1 w : World} {bv : Value} {pa : Int} {a b c : Value} {N : List Int} {K : List ByteArray} {V : List VT} {ys : List VT} {qs : List BCel} {g : Bg} {l : LT VT} {w' : World} (h : TkO elCell BCel.Is rb w1 w bv pa a b c N K V qs g l w') (hq : All OkC ys qs) : Isl VT.Alike l ys := hq.isl (fun _ _ u h1 h2 => h1.2 u h2) h.n h.is_
set_option maxHeartbeats 8000000 in
theorem refGetSt (w : World) (S : Nat → Prop) (p : Option Addr) (c : Nat) (B : List Int) (hB : Byts w S p B.length c (fun j => B.getD j 0)) (hS : ∀ b, S b → b < w.heap.size) (hl : B.length ≤ 1000000) (hBy : Byt B) : Calls Try.prog 24 #[.slice p B.length c] w fun x w' => ∃ t k, x = .returned (.tuple #[ST.val t, .int .i64 k]) ∧ GetP stateS ST.val noS ST.In2 (fun t y => ST.Alike y t) w B t k w' := by
  have ha : Below w.heap.size w (w.alloc (.cells #[.int .i64 0, .slice none 0 0] 30)) := (Below.refl _ _).alloc (Nat.le_refl _) _
  have hz0 : (w.alloc (.cells #[.int .i64 0, .slice none 0 0] 30)).heap.size = w.heap.size + 1 := by simp
  have hs : walkR 4 (txL ⟨#[110, 60, 99, 107, 91, 98, 118, 93, 62]⟩) ⟨[], [], []⟩ = bindS stateS fun r => retS (dSt r) := walk_st 0
  have HC := hid (refGet_any (w.alloc (.cells #[.int .i64 0, .slice none 0 0] 30)) S p c B (hB.kept ha.size fun b _ hl => ha.block b hl) (fun b hb => by have := hS b hb; omega) hl 4 ⟨#[110, 60, 99, 107, 91, 98, 118, 93, 62]⟩ (by decide) (by decide) (by rw [hs]; exact (low_bind low_state fun _ => low_ret _).no B))
  rw [hs] at HC
  have HA := hid ha
  have HV := hid (Box.new w #[.int .i64 0, .slice none 0 0] 30)
  have HBy := hid hBy
  clear hB hS ha hs hBy
  obtain ⟨n, hn⟩ : ∃ n, n = B.length := ⟨_, rfl⟩
  rw [← hn] at HC ⊢
  have HNl := hid (And.intro hn hl)
  clear hn hl
  go_enter Try.func24, Try.ntmps24
  go_wp2_with fail
  refine HC.out.mono ?_
  rintro x w1 ⟨k, rfl, hg⟩
  clear HC
  have hb1 := hg.bel
  have HB1 := hid hb1
  have HG := hid hg
  have hs1 := hb1.size
  by_cases hk : k = 0
  · subst hk
    cases hZ : stateS B with
    | error e =>
      obtain ⟨h1, h2⟩ := hg.bad e (by unfold bindS; rw [hZ])
      omega
    | ok z =>
      obtain ⟨r, R⟩ := z
      cases R with
      | cons z R =>
        have := hg.more (dSt r) z R (by unfold bindS; rw [hZ]; rfl)
        omega
      | nil =>
        obtain ⟨_, ⟨a, b, d, V', hG, hva⟩, hfew⟩ := hg.good (dSt r) (by unfold bindS; rw [hZ]; rfl)
        rw [hz0] at hG
        have hrb := hG.box.lt
        have hN1 := hfew.N
        have hK1 := hfew.K
        have hV1 := hfew.V
        have hV2 := hva.1
        have hll := HNl.out.2
        have hnn := HNl.out.1
        have HZr := hid hZ
        have HV1 := hid (HV.out.below hb1)
        obtain ⟨m, ys, qs, rfl, hq, hql, hqm, hq2⟩ := bag_state hZ HBy.out hva
        have hq3 := (put_whole _ _).trans (hq2 gNil)
        obtain ⟨hn0, hlf⟩ := numsG_at hq3
        have HQ := hid (And.intro hq hqm)
        have HN := hid (refNum3 hG (GW.start hG) (by omega) hn0)
        have HR := hid (fun W hb => refCells3 (w := W) hG hb (by omega) (by omega) (by omega) hlf (hq.left fun _ _ h => h.1) (by omega))
        clear hb1 hg hG hva hfew hq hq2 hq3 hn0 hlf hqm hN1 hK1 hV1 hV2 hll hnn hZ
        go_wp2_with fail
        refine HN.out.mono ?_
        rintro x w2 ⟨rfl, hb2, hbut2⟩
        have hal2 : Below w2.heap.size w2 (w2.alloc (.cells #[.int .i64 (m : Int), .slice none 0 0] 30)) := (Below.refl _ _).alloc (Nat.le_refl _) _
        have hz2 : (w2.alloc (.cells #[.int .i64 (m : Int), .slice none 0 0] 30)).heap.size = w2.heap.size + 1 := by simp
        have HR2 := hid (HR.out _ (hb2.kept hal2))
        have HS2 := hid (Box.new w2 #[.int .i64 (m : Int), .slice none 0 0] 30)
        have hs2 := hbut2.size
        have HV2 := hid ((HV1.out.but hbut2 (by omega)).below hal2)
        have HBu2 := hid (hbut2.trans (But.ofBelow hal2))
        clear hb2 hbut2 HN HR HV1 hal2
        go_wp2_with fail
        refine HR2.out.mono ?_
        rintro x w3 ⟨l, rfl, hT⟩
        obtain ⟨s, hs⟩ : ∃ s, s = w2.heap.size := ⟨_, rfl⟩
        have hv1 := HV2.out.but hT.but (by omega)
        have hs3 := hT.but.size
        have hs4 : s < w3.heap.size := by omega
        rw [← hs] at HS2 hs2 ⊢
        have hsb := HS2.out.but hT.but (by omega)
        have g1 := hsb.frozen 1
        have d1 := hsb.cell 1
        simp at d1
        have hb3 : But (fun y => y = s) w3 (w3.setCell ⟨s, 1, none⟩ (.slice l.p l.n l.c)) := (But.one w3 s).setAt 1 _
        have hsc := hsb.set 1 (.slice l.p l.n l.c)
        have e0 := hsc.cell 0
        have e1 := hsc.cell 1
        simp at e0 e1
        have hv := hv1.but hb3 (by omega)
        have HT := hid hT
        have HB3 := hid hb3
        have c0 := hv.cell 0
        have f0 := hv.frozen 0
        have c1 := hv.cell 1
        have f1 := hv.frozen 1
        simp only [List.getElem?_toArray, List.getElem?_cons_zero, List.getElem?_cons_succ] at c0 c1
        have zz := set2_box hv (.int .i64 (m : Int)) (.slice l.p l.n l.c)
        have r0' := zz.cell 0
        have r1' := zz.cell 1
        simp only [List.getElem?_toArray, List.getElem?_cons_zero, List.getElem?_cons_succ] at r0' r1'
        have HZ := hid (And.intro r0' r1')
        clear zz r0' r1'
        have HZ2 := hid (And.intro hs hz2)
        clear hv hsb hsc hb3 hT hv1 hs3 HS2 HR2 HV2 hs hz2
        go_wp2
        obtain ⟨r0', r1'⟩ := HZ.out
        have hfin := But.sets2 (w3.setCell ⟨s, 1, none⟩ (.slice l.p l.n l.c)) w.heap.size (.int .i64 (m : Int)) (.slice l.p l.n l.c)
        have hb12 : Below w.heap.size w1 w3 := (HBu2.out.trans HT.out.but).below (by omega) (fun k hk e => by omega)
        have hb4 : Below w.heap.size w3 _ := HB3.out.below (by omega) (fun k hk e => by omega)
        have hbf : Below w.heap.size w _ := (((HA.out.trans (HB1.out.mono (by omega))).trans hb12).trans hb4).trans (hfin.below (by have := HB3.out.size; omega) (fun k hk e => by omega))
        refine bodyPost_ret (v := .tuple #[ST.val ⟨(m : Int), l.p, l.n, l.c, l.item⟩, .int .i64 0]) (by simp [results, Try.results24, go_sem, ST.val, r0', r1']) rfl ⟨⟨(m : Int), l.p, l.n, l.c, l.item⟩, 0, rfl, hbf, ?_, fun y hy => ?_, fun y z R hy => ?_, fun e he => ?_⟩
        · obtain ⟨hs, hz2⟩ := HZ2.out
          have hin := (HT.out.in_.but HB3.out (fun b hb _ e => by omega)).but hfin (fun b hb _ e => by omega)
          exact ⟨ST.ofLT (hin.mono fun b hb _ => by omega) HQ.out.2, hin.nil⟩
        · rw [HZr.out] at hy; cases hy; exact ⟨rfl, rfl, (HT.out.alike HQ.out.1).1, fun j hj => (HT.out.alike HQ.out.1).2 j _ (getD_get hj)⟩
        · rw [HZr.out] at hy; cases hy
        · rw [HZr.out] at he; cases he
  · have hk' : (k == 0) = false := by simpa using hk
    have hv := HV.out.below hb1
    clear hb1 hg
    have c0 := hv.cell 0
    have f0 := hv.frozen 0
    have c1 := hv.cell 1
    have f1 := hv.frozen 1
    simp only [List.getElem?_toArray, List.getElem?_cons_zero, List.getElem?_cons_succ] at c0 c1
    have zz := set2_box hv (.int .i64 0) (.slice none 0 0)
    have r0' := zz.cell 0
    have r1' := zz.cell 1
    simp only [List.getElem?_toArray, List.getElem?_cons_zero, List.getElem?_cons_succ] at r0' r1'
    have HZ := hid (And.intro r0' r1')
    clear zz r0' r1'
    clear hv
    go_wp2
    obtain ⟨r0', r1'⟩ := HZ.out
    have hfin := But.sets2 w1 w.heap.size (.int .i64 0) (.slice none 0 0)
    have hbf : Below w.heap.size w _ := (HA.out.trans (HB1.out.mono (by omega))).trans (hfin.below (by omega) (fun k hk e => by omega))
    refine bodyPost_ret (v := .tuple #[.agg #[.int .i64 0, .slice none 0 0], .int .i64 k]) (by simp [results, Try.results24, go_sem, r0', r1']) rfl ⟨noS, k, rfl, hbf, in_noS _ _, fun y hy => ?_, fun y z R hy => ?_, fun e he => ?_⟩
    · exact absurd (HG.out.good (dSt y) (by unfold bindS; rw [hy]; rfl)).1 hk
    · exact ⟨HG.out.more (dSt y) z R (by unfold bindS; rw [hy]; rfl), rfl⟩
    · obtain ⟨a, b⟩ := HG.out.bad e (by unfold bindS; rw [he])
      exact ⟨a, b, rfl⟩
end Go.Proofs.Ytikfpoabaaiegaa

namespace Go.Proofs.Ytikfpoabaaiegaa
open Go.RowKit
set_option maxRecDepth 8000
theorem TkL.oneW {α β : Type} {E : El α} {Q : Nat → Prop} {Is : β → α → Prop} {bag : List β → Bg → Bg} {rb : Nat} {w1 w wr w9 : World} {bv : Value} {pa : Int} {a b c : Value} {N : List Int} {K : List ByteArray} {V : List VT} {rs : List β} {g : Bg} {v : Value} {t : Nat} {it : Nat → α} {i j k q : Nat}
    (h : TkL (E.wth Q) Is bag rb w1 w wr bv pa a b c N K V rs g v t it i j k) (h1 : But (fun q => q = rb) w1 w) (hQ : ∀ b, Q b → b ≠ q) (hq : w.heap.size ≤ q) (hrb : rb < w.heap.size) (ho : ∀ o, v.ownBlock = some o → q < o) (hb : But (fun y => y = q) wr w9) :
    TkL (E.wth Q) Is bag rb w1 w w9 bv pa a b c N K V rs g v t it i j k := by
  have s1 := h1.size
  have s2 := h.but.size
  have hb3 : But (fun q => q = rb) w w9 := ⟨hb.os.trans h.but.os, hb.tape.trans h.but.tape, hb.output.trans h.but.output, Nat.le_trans h.but.size hb.size, fun x hx hne => (hb.block x (by omega) (by omega)).trans (h.but.block x hx hne)⟩
  refine ⟨⟨ownsRow_keep h.own.own (fun o ho2 hl => hb.block o hl (by have := ho o ho2; omega)), fun j hj => ?_⟩, h.hi, h.is_, ⟨h.gw.box.but hb (by omega), h1.trans hb3⟩, h.left, hb3⟩
  have := h.own.each j hj
  exact E.kept this hb.size fun b hb2 hl => hb.block b hl (hQ b hb2.2)
theorem bagFs_cons {N : List Int} {K : List ByteArray} {V : List VT} {i j k : Nat} {x : Nat × Nat} {xs : List (Nat × Nat)} {g : Bg} (h : lft N K V i j k = bagFs (x :: xs) g) : N[i]? = some (x.1 : Int) ∧ N[i + 1]? = some (x.2 : Int) ∧ lft N K V (i + 1 + 1) j k = bagFs xs g := by
  simp only [lft, bagFs, List.flatMap_cons, List.cons_append, List.nil_append, Bg.mk.injEq] at h
  obtain ⟨h1, h2, h3⟩ := h
  obtain ⟨a1, a2⟩ := drop_cons h1
  obtain ⟨b1, b2⟩ := drop_cons a2
  exact ⟨a1, b1, by simp only [lft, bagFs, b2, h2, h3]⟩
theorem dMan_V (y : Nat × Nat × List (Nat × Nat)) : (dMan y).V = [] := by
  simp [dMan, dFile, dList, catB, Bg.add]
  rintro x a b _ rfl
  rfl
theorem bag_man {y : Nat × Nat × List (Nat × Nat)} {B R : List Int} {V : List VT} (h : manS B = .ok (y, R)) (hB : Byt B) (hv : VAl (dMan y).V V) : y.1 ≤ 9999 ∧ y.2.1 < 4294967296 ∧ y.2.2.length ≤ 12 ∧ (∀ x ∈ y.2.2, SmF x) ∧ lft (dMan y).N (dMan y).K V 0 0 0 = numsG (y.1 : Int) (numsG (y.2.1 : Int) (numsG (y.2.2.length : Int) (bagFs y.2.2 gNil))) := by
  obtain ⟨_, M, h1, h⟩ := bind_ok h
  obtain ⟨a, M2, h2, h⟩ := bind_ok h
  obtain ⟨s, M3, h3, h⟩ := bind_ok h
  obtain ⟨l, M4, h4, h⟩ := bind_ok h
  obtain ⟨rfl, rfl⟩ := ret_ok h
  rw [first_ok h1] at hB
  have hM := hB.tail
  obtain ⟨a1, a2⟩ := num_ok h2 hM
  rw [a1] at hM
  have hM2 := hM.right
  obtain ⟨b1, b2⟩ := word_ok h3 hM2
  rw [b1] at hM2
  obtain ⟨c1, c2⟩ := files_small h4 hM2.right
  rw [dMan_V] at hv
  refine ⟨a2, b2, c1, c2, ?_⟩
  rw [put_whole, hv.none_]
  simp [Put, dMan, dFile, dList, catB, Bg.add, numsG, bagFs, gNil, List.flatMap_map]
set_option maxHeartbeats 8000000 in
theorem refGetMan (w : World) (S : Nat → Prop) (p : Option Addr) (c : Nat) (B : List Int) (hB : Byts w S p B.length c (fun j => B.getD j 0)) (hS : ∀ b, S b → b < w.heap.size) (hl : B.length ≤ 1000000) (hBy : Byt B) : Calls Try.prog 26 #[.slice p B.length c] w fun x w' => ∃ t k, x = .returned (.tuple #[MT.val t, .int .i64 k]) ∧ GetP manS MT.val zMT MT.In MT.Is w B t k w' := by
  have ha : Below w.heap.size w (w.alloc (.cells #[.int .i64 0, .int .u32 0, .slice none 0 0] 41)) := (Below.refl _ _).alloc (Nat.le_refl _) _
  have hz0 : (w.alloc (.cells #[.int .i64 0, .int .u32 0, .slice none 0 0] 41)).heap.size = w.heap.size + 1 := by simp
  have hs : walkR 6 (txL ⟨#[77, 105, 119, 91, 114, 122, 119, 93]⟩) ⟨[], [], []⟩ = bindS manS fun r => retS (dMan r) := walk_man 0
  have HC := hid (refGet_any (w.alloc (.cells #[.int .i64 0, .int .u32 0, .slice none 0 0] 41)) S p c B (hB.kept ha.size fun b _ hl => ha.block b hl) (fun b hb => by have := hS b hb; omega) hl 6 ⟨#[77, 105, 119, 91, 114, 122, 119, 93]⟩ (by decide) (by decide) (by rw [hs]; exact (low_bind low_man fun _ => low_ret _).no B))
  rw [hs] at HC
  have HA := hid ha
  have HV := hid (Box.new w #[.int .i64 0, .int .u32 0, .slice none 0 0] 41)
  have HBy := hid hBy
  clear hB hS ha hs hBy
  obtain ⟨n, hn⟩ : ∃ n, n = B.length := ⟨_, rfl⟩
  rw [← hn] at HC ⊢
  have HNl := hid (And.intro hn hl)
  clear hn hl
  go_enter Try.func26, Try.ntmps26
  go_wp2_with fail
  refine HC.out.mono ?_
  rintro x w1 ⟨k, rfl, hg⟩
  clear HC
  have hb1 := hg.bel
  have HB1 := hid hb1
  have HG := hid hg
  have hs1 := hb1.size
  by_cases hk : k = 0
  · subst hk
    cases hZ : manS B with
    | error e =>
      obtain ⟨h1, h2⟩ := hg.bad e (by unfold bindS; rw [hZ])
      omega
    | ok z =>
      obtain ⟨r, R⟩ := z
      cases R with
      | cons z R =>
        have := hg.more (dMan r) z R (by unfold bindS; rw [hZ]; rfl)
        omega
      | nil =>
        obtain ⟨_, ⟨a, b, d, V', hG, hva⟩, hfew⟩ := hg.good (dMan r) (by unfold bindS; rw [hZ]; rfl)
        rw [hz0] at hG
        have hrb := hG.box.lt
        have hN1 := hfew.N
        have hK1 := hfew.K
        have hV1 := hfew.V
        have hV2 := hva.1
        have hll := HNl.out.2
        have hnn := HNl.out.1
        have HZr := hid hZ
        have HV1 := hid (HV.out.below hb1)
        obtain ⟨hm1, hm2, hm3, hm4, hm5⟩ := bag_man hZ HBy.out hva
        obtain ⟨hn0, hlf0⟩ := numsG_at hm5
        obtain ⟨hn1, hlf1⟩ := numsG_at hlf0
        obtain ⟨hn2, hlf2⟩ := numsG_at hlf1
        have HQ := hid (And.intro hm1 (And.intro hm2 hm4))
        obtain ⟨i0, Kd⟩ := kindRo
        have HKd := hid Kd
        have HN := hid (refNum3 hG (GW.start hG) (by omega) hn0)
        have HN1 := hid (fun W hb => refNum3 (w := W) (j := 0) (k := 0) hG hb (by omega) hn1)
        have HN2 := hid (fun W hb => refNum3 (w := W) (j := 0) (k := 0) hG hb (by omega) hn2)
        have hNl : (dMan r).N.length ≤ 1000000 := by omega
        generalize (dMan r).N = N at hG hN1 hlf2 hNl HN HN1 HN2 hm5
        generalize (dMan r).K = K at hG hK1 hlf2 HN HN1 HN2 hm5
        generalize (B.length : Int) = pa at hG HN HN1 HN2
        have HL0 := hid hlf2
        have H := hid hG
        have hsum : ((r.2.1 : Int)) < 4294967296 := by omega
        obtain ⟨m, hm⟩ : ∃ m, m = r.2.2.length := ⟨_, rfl⟩
        rw [← hm] at HN2
        clear hb1 hg hG hva hfew hm5 hm1 hm2 hm4 hn0 hn1 hn2 hlf0 hlf1 hlf2 hN1 hK1 hV1 hV2 hll hnn hZ Kd
        go_wp2_with fail
        refine HN.out.mono ?_
        rintro x w2 ⟨rfl, hb2, hbut2⟩
        have HN1a := hid (HN1.out _ hb2)
        have HV2 := hid (HV1.out.but hbut2 (by omega))
        have hs2 := hbut2.size
        have HBu2 := hid hbut2
        clear hb2 hbut2 HN HN1 HV1
        go_wp2_with fail
        refine HN1a.out.mono ?_
        rintro x w3 ⟨rfl, hb3, hbut3⟩
        have hal3 : Below w3.heap.size w3 (w3.alloc (.cells #[.int .i64 (r.1 : Int), .int .u32 (r.2.1 : Int), .slice none 0 0] 41)) := (Below.refl _ _).alloc (Nat.le_refl _) _
        have hz3 : (w3.alloc (.cells #[.int .i64 (r.1 : Int), .int .u32 (r.2.1 : Int), .slice none 0 0] 41)).heap.size = w3.heap.size + 1 := by simp
        have hs3 := hbut3.size
        have HN2a := hid (HN2.out _ (hb3.kept hal3))
        have HS3 := hid (Box.new w3 #[.int .i64 (r.1 : Int), .int .u32 (r.2.1 : Int), .slice none 0 0] 41)
        have HBu3 := hid (HBu2.out.trans hbut3)
        have HV3 := hid (HV2.out.but hbut3 (by omega))
        have HAl3 := hid hal3
        clear hb3 hbut3 HN1a HN2 HBu2 HV2 hal3
        go_wp2_with fail
        refine HN2a.out.mono ?_
        rintro x w4 ⟨rfl, hb4, hbut4⟩
        obtain ⟨q, hq⟩ : ∃ q, q = w3.heap.size := ⟨_, rfl⟩
        rw [← hq] at HS3 ⊢
        have hqr : q ≠ w.heap.size + 1 := by omega
        have HQ4 := hid (HS3.out.but hbut4 hqr)
        have HI4 : Hid (TkL (elRow.wth (fun b => b ≠ q)) (fun x y => y = x) bagFs (w.heap.size + 1) w1 w3 w4 (.slice p n c) pa a b d N K V' r.2.2 gNil (.slice none 0 0) 0 (fun _ => (0, 0)) (0 + 1 + 1 + 1) 0 0) := ⟨⟨World.ownsRow_nil w4 _ _ _, fun _ h => absurd h (by omega)⟩, fun _ h => (by cases h), fun _ _ h => absurd h (by omega), hb4, HL0.out, (But.ofBelow HAl3.out).trans hbut4⟩
        have HQq := hid hq
        clear hb4 hbut4 HN2a HS3 HAl3 HL0 hq hz3
        go_wp2_with fail
        go_loopw [9] (fun y wr => ∃ (u i j k : Nat) (v : Value) (it : Nat → Nat × Nat), u ≤ m ∧ y = .int .i64 (u : Int) ∧ Box wr q #[.int .i64 (r.1 : Int), .int .u32 (r.2.1 : Int), v] 41 ∧ (∀ o, v.ownBlock = some o → q < o) ∧ TkL (elRow.wth (fun b => b ≠ q)) (fun x y => y = x) bagFs (w.heap.size + 1) w1 w3 wr (.slice p n c) pa a b d N K V' r.2.2 gNil v u it i j k) (fun y _ => m - (intOf y).toNat)
        case atStart => exact ⟨0, _, _, _, _, _, Nat.zero_le _, rfl, HQ4.out, fun _ h => (by cases h), HI4.out⟩
        case round =>
          obtain ⟨u, i6, j6, k6, v, it6, hu, rfl, hqb, hqo, hI⟩ := hrel
          clear HQ4 HI4
          obtain ⟨pv, cv, rfl⟩ := ownsRow_slice hI.own.own
          have hqs := hqb.lt
          have HI := hid hI
          by_cases hum : u < m
          · have hum' : (u : Int) < (m : Int) := by omega
            have hur : u < r.2.2.length := by omega
            have HXt : Hid (r.2.2[u]? = some r.2.2[u]) := List.getElem?_eq_getElem hur
            have hsm := HQ.out.2.2 _ (List.getElem_mem hur)
            have hlf := hI.left
            rw [List.drop_eq_getElem_cons hur] at hlf
            generalize r.2.2[u] = x at HXt hlf hsm
            obtain ⟨g1, g2, g3⟩ := bagFs_cons hlf
            have HNa := hid (refNum3 H.out hI.gw (by omega) g1)
            have HG2 := hid g2
            have HLf := hid g3
            have HS := hid (And.intro hqb (And.intro hqo hsm))
            clear hqb hqo hI hlf g1 g2 g3 hsm
            go_wp2_with fail
            refine HNa.out.mono ?_
            rintro e w6 ⟨rfl, hb6, hbut6⟩
            have HNb := hid (refNum3 H.out hb6.drew (by omega) HG2.out)
            have hqb6 := HS.out.1.but hbut6 hqr
            have d2 := hqb6.cell 2
            simp at d2
            have HB6 := hid hbut6
            have HS6 := hid hqb6
            have hx2 := HS.out.2.2.2
            have hx2' : (x.2 : Int) < 4294967296 := by omega
            have HWr : Hid (IntKind.u32.wrap (x.2 : Int) = (x.2 : Int)) := by
              unfold Hid
              rw [IntKind.wrap_u32]
              omega
            clear hb6 hbut6 HNa hqb6 HG2
            go_wp2_with fail
            refine wp_region_calmE 30 (fun wx => wx.cell? ⟨q, 2, none⟩ = some (.slice pv u cv)) [(0, true), (1, false), (2, true), (3, true)] (.one 4 true [(5, true), (6, true)] (.one 7 true [] (.one 8 false [(9, true)] (.one 10 false [] .done)))) (by kernel_rfl) (by kernel_rfl) d2 ?_
            refine wpPre_e rfl rfl (fun K1 hK1 => ?_)
            apply Exists.intro
            refine And.intro (fun wx hx => ?_) ?_
            · go_simp
              try rfl
            go_simp
            refine hK1 _ ?_
            clear hK1 K1
            refine wpPre_e rfl rfl (fun K1 hK1 => ?_)
            apply Exists.intro
            refine And.intro (fun wx hx => ?_) ?_
            · have e0 := hx.resolve_left (by decide)
              go_simp
              try rfl
            go_simp
            refine hK1 _ ?_
            clear hK1 K1
            refine wpPre_e rfl rfl (fun K1 hK1 => ?_)
            apply Exists.intro
            refine And.intro (fun wx hx => ?_) ?_
            · go_simp
              try rfl
            go_simp
            refine hK1 _ ?_
            clear hK1 K1
            refine wpPre_e rfl rfl (fun K1 hK1 => ?_)
            apply Exists.intro
            refine And.intro (fun wx hx => ?_) ?_
            · go_simp
              try rfl
            go_simp
            refine hK1 _ ?_
            clear hK1 K1
            refine wpPre_nil ?_
            refine wpTr_e rfl (fun K1 hK1 => ?_)
            refine step_call rfl 68 #[.tmp 39] _ rfl Try.f68 Try.func68 (by kernel_rfl) rfl #[.pointer (some ⟨w.heap.size + 1, 3, none⟩)] rfl _ HNb.out (fun e w7 h7 => ?_)
            obtain ⟨rfl, hb7, hbut7⟩ := h7
            have hbut7' : But (fun q => q = w.heap.size + 1) w6 w7 := (But.refl _ _).drew.trans hbut7
            have hqb7 := HS6.out.but hbut7' hqr
            have e5 := hqb7.cell 2
            simp at e5
            refine ⟨_, rfl, ?_⟩
            go_simp
            refine hK1 _ _ (fun _ => e5) ?_
            clear hK1 K1 hbut7 HNb
            refine wpPre_e rfl rfl (fun K1 hK1 => ?_)
            apply Exists.intro
            refine And.intro (fun wx hx => ?_) ?_
            · go_simp
              try rfl
            go_simp
            refine hK1 _ ?_
            clear hK1 K1
            refine wpPre_e rfl rfl (fun K1 hK1 => ?_)
            apply Exists.intro
            refine And.intro (fun wx hx => ?_) ?_
            · go_simp
              try rfl
            go_simp
            refine hK1 _ ?_
            clear hK1 K1
            refine wpPre_nil ?_
            rw [HWr.out]
            have hal7 : Below w7.heap.size w7 (w7.alloc (.cells #[.int .i64 (x.1 : Int), .int .u32 (x.2 : Int)] 110)) := (Below.refl _ _).alloc (Nat.le_refl _) _
            have hqb8 := hqb7.below hal7
            have e6 := hqb8.cell 2
            simp at e6
            have hbutI := HB6.out.trans hbut7'
            have hov7 : (w7.alloc (.cells #[.int .i64 (x.1 : Int), .int .u32 (x.2 : Int)] 110)).ownsRow (w.heap.size + 1 + 1) 110 2 (.slice pv u cv) u ((List.range u).flatMap fun j => (elRow.wth (fun b => b ≠ q)).cells (it6 j)) := ownsRow_keep (ownsRow_keep HI.out.own.own (fun g hg hl => hbutI.block g hl (by have := (HI.out.own.own.lt g hg).1; omega))) (fun g hg hl => hal7.block g hl)
            have HNw := hid (new_many0 w7 [.int .i64 (x.1 : Int), .int .u32 (x.2 : Int)] 110)
            have hq8 := hqb8.lt
            have hqs7 := hqb7.lt
            have hrb7 := hb7.box.lt
            refine wpTr_e rfl (fun K1 hK1 => ?_)
            go_simp
            refine hK1 _ _ (fun _ => e6) ?_
            clear hK1 K1
            refine wpPre_nil ?_
            refine wpTr_e rfl (fun K1 hK1 => ?_)
            refine step_app rfl (.tmp 37) (.tmp 43) 39 110 i0 _ 2 16 HKd.out rfl (w.heap.size + 1 + 1) _ u _ rfl hov7 ⟨w7.heap.size, 0, none⟩ 1 1 [.int .i64 (x.1 : Int), .int .u32 (x.2 : Int)] rfl rfl HNw.out ((elRow).one x) (by omega) (by omega) (by simp; omega) ?_
            intro v3 w8 ho3 hg3 hn3
            have hqb9 := hqb8.kept (hg3.block q hq8 fun e => by have := HS.out.2.1 q e.symm; omega)
            have ho9 : ∀ o, v3.ownBlock = some o → q < o := fun o ho => by
              rcases hn3 with e | e
              · exact HS.out.2.1 o (e ▸ ho)
              · have := e o ho
                omega
            have HT8 := hid (HI.out.step HBu3.out HXt.out (by omega) rfl ⟨by have := HS.out.2.2.1; omega, HS.out.2.2.2⟩ hb7 HLf.out hbutI ho3 hg3 hn3)
            obtain ⟨p3, c3, rfl⟩ := ownsRow_slice ho3
            have y5 := hqb9.cell 2
            have g5 := hqb9.frozen 2
            simp at y5
            go_simp
            refine hK1 _ _ (fun h => by cases h) ?_
            clear hK1 K1
            refine wpPre_e rfl rfl (fun K1 hK1 => ?_)
            apply Exists.intro
            refine And.intro (fun wx hx => ?_) ?_
            · go_simp
              try rfl
            go_simp
            refine hK1 _ ?_
            clear hK1 K1
            refine wpPre_nil ?_
            refine wpTr_e rfl (fun K1 hK1 => ?_)
            go_simp
            refine hK1 _ _ (fun h => by cases h) ?_
            clear hK1 K1
            refine wpPre_nil ?_
            refine wpTr_done ?_
            have hbq : But (fun y => y = q) w8 (w8.setCell ⟨q, 2, none⟩ (.slice p3 (u + 1) c3)) := (But.one w8 q).setAt 2 _
            have HQ9 : Hid (Box (w8.setCell ⟨q, 2, none⟩ (.slice p3 (u + 1) c3)) q #[.int .i64 (r.1 : Int), .int .u32 (r.2.1 : Int), .slice p3 (u + 1) c3] 41) := by
              have h9 := hqb9.set 2 (.slice p3 (u + 1) c3)
              unfold Hid
              simpa using h9
            have HT9 := hid (HT8.out.oneW HBu3.out (fun b hb => hb) (by have := HQq.out; omega) (by omega) ho9 hbq)
            have HO9 := hid ho9
            clear hbq hqb9 hqb8 hqb7 hov7 hg3 ho3 hn3 HS HS6 HB6 hb7 hbut7' hal7 HNw e5 e6 y5 g5 d2 HT8 ho9 HI HXt HLf hbutI
            generalize w8.setCell ⟨q, 2, none⟩ (.slice p3 (u + 1) c3) = w9 at HQ9 HT9 ⊢
            go_wp2
            go_roundw
            case rel => exact ⟨u + 1, _, _, _, _, _, by omega, by go_num, HQ9.out, HO9.out, HT9.out⟩
            case measure => simp [intOf]; omega
          · obtain rfl : u = m := by omega
            have hum' : ¬ (u : Int) < (u : Int) := by omega
            obtain ⟨pl, cl, hv0, hin⟩ := hI.own.in_ (by omega)
            have d0 := hqb.cell 0
            have d1 := hqb.cell 1
            have d2 := hqb.cell 2
            simp at d0 d1 d2
            have hs4 := hI.but.size
            have hv := HV3.out.but hI.but (by omega)
            obtain ⟨l, hl⟩ : ∃ l : LT (Nat × Nat), l = ⟨pl, u, cl, it6⟩ := ⟨_, rfl⟩
            have hlp : pl = l.p := by rw [hl]
            have hln : u = l.n := by rw [hl]
            have hlc : cl = l.c := by rw [hl]
            rw [hv0] at d2
            have HIn : Hid (LT.In elRow wr (fun b => w.heap.size + 1 < b ∧ b ≠ w.heap.size) l) := by
              rw [hl]
              have h9 : LT.In elRow wr (fun b => w.heap.size + 1 < b ∧ b ≠ w.heap.size) ⟨pl, u, cl, it6⟩ := LT.In.mono (⟨hin.at_, hin.each, hin.nc, hin.nn, hin.cc, hin.nil⟩ : LT.In elRow wr _ ⟨pl, u, cl, it6⟩) (fun b hb _ => by omega)
              exact h9
            have HIs : Hid (Isl (fun y u => u = y) l r.2.2) := by
              rw [hl]
              exact ⟨hm, fun i x hx => hI.is_ i x (by have := (List.getElem?_eq_some_iff.1 hx).1; omega) hx⟩
            have HBw := hid hI.but
            rw [hlp, hln, hlc] at d2
            have c0 := hv.cell 0
            have f0 := hv.frozen 0
            have c1 := hv.cell 1
            have f1 := hv.frozen 1
            have c2 := hv.cell 2
            have f2 := hv.frozen 2
            simp only [List.getElem?_toArray, List.getElem?_cons_zero, List.getElem?_cons_succ] at c0 c1 c2
            have zz := set3_box hv (.int .i64 (r.1 : Int)) (.int .u32 (r.2.1 : Int)) (.slice l.p l.n l.c)
            have r0' := zz.cell 0
            have r1' := zz.cell 1
            have r2' := zz.cell 2
            simp only [List.getElem?_toArray, List.getElem?_cons_zero, List.getElem?_cons_succ] at r0' r1' r2'
            have HZ := hid (And.intro r0' (And.intro r1' r2'))
            clear zz r0' r1' r2'
            clear hv hin hqb hqo hI HI hv0 hlp hln hlc hl HV3
            go_wp2
            obtain ⟨r0', r1', r2'⟩ := HZ.out
            have hfin := But.sets3 wr w.heap.size (.int .i64 (r.1 : Int)) (.int .u32 (r.2.1 : Int)) (.slice l.p l.n l.c)
            have hb12 : Below w.heap.size w1 wr := (HBu3.out.trans HBw.out).below (by omega) (fun k hk e => by omega)
            have hbf : Below w.heap.size w _ := ((HA.out.trans (HB1.out.mono (by omega))).trans hb12).trans (hfin.below (by omega) (fun k hk e => by omega))
            refine bodyPost_ret (v := .tuple #[MT.val ⟨r.1, r.2.1, l⟩, .int .i64 0]) (by simp [results, Try.results26, go_sem, MT.val, r0', r1', r2']) rfl ⟨⟨r.1, r.2.1, l⟩, 0, rfl, hbf, ?_, fun y hy => ?_, fun y z R hy => ?_, fun e he => ?_⟩
            · exact ⟨HQ.out.1, HQ.out.2.1, LT.In.mono (LT.In.but HIn.out hfin (fun b hb _ e => hb.2 e)) (fun b hb _ => by omega)⟩
            · rw [HZr.out] at hy; cases hy; exact ⟨rfl, rfl, rfl, HIs.out⟩
            · rw [HZr.out] at hy; cases hy
            · rw [HZr.out] at he; cases he
  · have hk' : (k == 0) = false := by simpa using hk
    have hv := HV.out.below hb1
    clear hb1 hg
    have c0 := hv.cell 0
    have f0 := hv.frozen 0
    have c1 := hv.cell 1
    have f1 := hv.frozen 1
    have c2 := hv.cell 2
    have f2 := hv.frozen 2
    simp only [List.getElem?_toArray, List.getElem?_cons_zero, List.getElem?_cons_succ] at c0 c1 c2
    have zz := set3_box hv (.int .i64 0) (.int .u32 0) (.slice none 0 0)
    have r0' := zz.cell 0
    have r1' := zz.cell 1
    have r2' := zz.cell 2
    simp only [List.getElem?_toArray, List.getElem?_cons_zero, List.getElem?_cons_succ] at r0' r1' r2'
    have HZ := hid (And.intro r0' (And.intro r1' r2'))
    clear zz r0' r1' r2'
    clear hv
    go_wp2
    obtain ⟨r0', r1', r2'⟩ := HZ.out
    have hfin := But.sets3 w1 w.heap.size (.int .i64 0) (.int .u32 0) (.slice none 0 0)
    have hbf : Below w.heap.size w _ := (HA.out.trans (HB1.out.mono (by omega))).trans (hfin.below (by omega) (fun k hk e => by omega))
    refine bodyPost_ret (v := .tuple #[.agg #[.int .i64 0, .int .u32 0, .slice none 0 0], .int .i64 k]) (by simp [results, Try.results26, go_sem, r0', r1', r2']) rfl ⟨zMT, k, rfl, hbf, in_zMT _ _, fun y hy => ?_, fun y z R hy => ?_, fun e he => ?_⟩
    · exact absurd (HG.out.good (dMan y) (by unfold bindS; rw [hy]; rfl)).1 hk
    · exact ⟨HG.out.more (dMan y) z R (by unfold bindS; rw [hy]; rfl), rfl⟩
    · obtain ⟨a, b⟩ := HG.out.bad e (by unfold bindS; rw [he])
      exact ⟨a, b, rfl⟩
end Go.Proofs.Ytikfpoabaaiegaa
