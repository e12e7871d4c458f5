import Derived.Test.YtpldokahoamdpaaLeN
namespace Go.Proofs.Ytpldokahoamdpaa
open Go.RowKit
set_option maxRecDepth 8000
theorem kindIts : ∃ i, Kind 94 22 i (.slice none 0 0) 1 24 := by
  obtain ⟨i0, hi, hz0, hz1, hz2⟩ := info_parts (show (Try.prog.info? 22).map (fun i => (i.zero, i.size, i.bytes)) = some (some (.slice none 0 0), 1, 24) by kernel_rfl)
  exact ⟨i0, Try.underlying94, hi, hz0, hz1, hz2, rfl, by decide⟩
set_option maxRecDepth 60000 in
set_option maxHeartbeats 8000000 in
/-- Items -/
theorem items_any (l : LT IT) (base : Nat) (w : World) (R : RS) (S : Nat → Prop) (hR : Rm base w R) (hbase : base ≤ w.heap.size) (hin : LT.In elItem w S l) (hS : ∀ b, S b → ¬ R.hot b) (hsum : l.sumI l.n ≤ 10000) (hcnt : ∀ i, i < 10 → (R.L i).length ≤ 1000) :
    Calls Try.prog 43 #[.pointer (some ⟨R.rb, 0, none⟩), .slice l.p l.n l.c] w fun e w' => TPost base w R l e w' := by
  obtain ⟨i0, Kd⟩ := kindIt
  obtain ⟨i1, Kd1⟩ := kindIts
  have HKd := hid Kd
  have HKd1 := hid Kd1
  have hnn : l.n ≤ 10000 := Nat.le_trans (l.sumI_le l.n) hsum
  have HI := hid hin
  have HSS := hid hS
  have HCn := hid hcnt
  have HR : Hid (Rm base w R) := hR
  have HSu := hid hsum
  clear hin hS hcnt hR Kd Kd1 hsum
  go_enter Try.func43, Try.ntmps43
  go_wp2_with fail
  have hF0 : FillT w.heap.size (w.alloc (.cells #[] 35)) R (.slice (some ⟨w.heap.size, 0, none⟩) 0 0) 0 l.item := FillT.nil _ _ _ _ (Nat.le_refl _) fun b hb => HR.out.footlt hb
  have hb0 : Below w.heap.size w (w.alloc (.cells #[] 35)) := (Below.refl _ _).alloc (Nat.le_refl _) _
  have hR0 : Rm base (w.alloc (.cells #[] 35)) R := HR.out.below hb0
  go_loopw [5, 6] (fun v x wr => ∃ (j : Nat) (g : Nat → IT) (Rj : RS), j ≤ l.n ∧ x = .int .i64 j ∧ FillT w.heap.size wr Rj v j g ∧ (∀ q, q < j → IT.Alike (l.item q) (g q)) ∧ Rm base wr Rj ∧ Nx w R Rj ∧ But R.hot w wr ∧ (∀ q, q < 10 → (Rj.L q).length ≤ (R.L q).length + 2 * l.sumI j)) (fun _ x _ => l.n - (intOf x).toNat)
  case atStart => exact ⟨0, l.item, R, Nat.zero_le _, rfl, hF0, fun q hq => absurd hq (by omega), hR0, Nx.refl _ _, But.ofBelow hb0, fun q hq => by omega⟩
  case round =>
    obtain ⟨j, g, Rj, hj, rfl, hF, hal, hRj, hNx, hBt, hCn⟩ := hrel
    clear hF0 hb0 hR0
    have hrb := hNx.rb
    by_cases hlt : j < l.n
    · have hlt' : (j : Int) < (l.n : Int) := by omega
      obtain ⟨bb, o, hp, hSb, hbl, hat⟩ := HI.out.at_ (by omega)
      rw [hp]
      have hbk := hBt.block bb hbl (HSS.out bb hSb)
      have hcell : ∀ r u, (elItem.cells (l.item j))[r]? = some u → wr.cell? ⟨bb, o + j * 7 + r, none⟩ = some u := fun r u hu => (World.cell?_of_block (a := ⟨bb, o + j * 7 + r, none⟩) hbk).trans (hat j hlt r u hu)
      obtain ⟨x, hx⟩ : ∃ x, x = l.item j := ⟨_, rfl⟩
      rw [← hx] at hcell
      have c0 : wr.cell? ⟨bb, o + j * 7, none⟩ = some (.int .i64 x.mark) := hcell 0 _ rfl
      have c1 := hcell 1 _ rfl
      have c2 := hcell 2 _ rfl
      have c3 := hcell 3 _ rfl
      have c4 := hcell 4 _ rfl
      have c5 := hcell 5 _ rfl
      have c6 := hcell 6 _ rfl
      have hbl2 : bb < wr.heap.size := Nat.lt_of_lt_of_le hbl hBt.size
      have hnot : ¬ Rj.hot bb := fun h => by
        rcases hNx.hot bb h with h2 | h2
        · exact HSS.out bb hSb h2
        · omega
      have hxin : IT.In w S x := by rw [hx]; exact HI.out.each j hlt
      have hsm := l.sumI_mono (show j + 1 ≤ l.n from hlt)
      have hss := LT.sumI_succ l j
      rw [← hx] at hss
      have HC : Hid (∀ W, Below wr.heap.size wr W → Calls Try.prog 62 #[.pointer (some ⟨R.rb, 0, none⟩), .agg #[.string x.r.key, .int .i64 x.r.v.kind, .int .i64 x.r.v.int, .string x.r.v.text, .slice x.r.v.p x.r.v.n x.r.v.c, .slice x.r.p x.r.n x.r.c]] W fun e w' => RPost base W Rj x.r e w') := fun W hW => by
        have h1 : IT.In wr (fun b => S b ∧ b < w.heap.size) x := (hxin.mono fun b hb hl => ⟨hb, hl⟩).kept hBt.size fun b hb hl => hBt.block b hl (HSS.out b hb.1)
        have h := among_any x.r base W Rj (fun b => S b ∧ b < w.heap.size) (hRj.below hW) (by have := hW.size; have := hBt.size; omega) (h1.below hW).r (fun b hb hh => by
          rcases hNx.hot b hh with h2 | h2
          · exact HSS.out b hb.1 h2
          · have := hb.2; omega) (fun q hq => by have h1 := hCn q hq; have h2 := HCn.out q hq; have h3 := HSu.out; omega) (by have h3 := HSu.out; omega)
        rw [hrb] at h
        exact h
      have HX : Hid (FillT w.heap.size wr Rj u5 j g ∧ (∀ q, q < j → IT.Alike (l.item q) (g q)) ∧ Rm base wr Rj ∧ Nx w R Rj ∧ But R.hot w wr ∧ (∀ q, q < 10 → (Rj.L q).length ≤ (R.L q).length + 2 * l.sumI j)) := ⟨hF, hal, hRj, hNx, hBt, hCn⟩
      have HNo := hid hnot
      have HM := hid (And.intro hxin.m0 hxin.m1)
      have HXe := hid hx
      have HSm := hid (And.intro hsm hss)
      clear hat hF hal hRj hNx hBt hCn hcell hnot hxin hx hsm hss hbk
      go_upto_region 5 with fail
      refine wp_region_calmE 30 (fun wx => wx.heap[bb]? = wr.heap[bb]?) [(0, true), (1, true), (2, true), (3, true), (4, true), (5, false), (6, true), (7, true), (8, true), (9, true), (10, true), (11, false)] (.one 12 true [(13, true)] (.one 14 true [] (.one 15 false [(16, true)] .done))) (by kernel_rfl) (by kernel_rfl) rfl ?_
      refine wpPre_e rfl rfl (fun K1 hK1 => ?_)
      apply Exists.intro
      refine And.intro (fun wx hx => ?_) ?_
      · go_simp
        try rfl
      go_simp
      refine hK1 _ ?_
      clear hK1 K1
      refine wpPre_e rfl rfl (fun K1 hK1 => ?_)
      apply Exists.intro
      refine And.intro (fun wx hx => ?_) ?_
      · go_simp
        try rfl
      go_simp
      refine hK1 _ ?_
      clear hK1 K1
      refine wpPre_e rfl rfl (fun K1 hK1 => ?_)
      apply Exists.intro
      refine And.intro (fun wx hx => ?_) ?_
      · go_simp
        try rfl
      go_simp
      refine hK1 _ ?_
      clear hK1 K1
      refine wpPre_e rfl rfl (fun K1 hK1 => ?_)
      apply Exists.intro
      refine And.intro (fun wx hx => ?_) ?_
      · go_simp
        try rfl
      go_simp
      refine hK1 _ ?_
      clear hK1 K1
      refine wpPre_e rfl rfl (fun K1 hK1 => ?_)
      apply Exists.intro
      refine And.intro (fun wx hx => ?_) ?_
      · go_simp
        try rfl
      go_simp
      refine hK1 _ ?_
      clear hK1 K1
      refine wpPre_e rfl rfl (fun K1 hK1 => ?_)
      apply Exists.intro
      refine And.intro (fun wx hx => ?_) ?_
      · have e0 := hx.resolve_left (by decide)
        have l0 := (World.cell?_of_block (a := ⟨bb, o + j * 7, none⟩) e0).trans c0
        have l1 := (World.cell?_of_block (a := ⟨bb, o + j * 7 + 1, none⟩) e0).trans c1
        have l2 := (World.cell?_of_block (a := ⟨bb, o + j * 7 + 2, none⟩) e0).trans c2
        have l3 := (World.cell?_of_block (a := ⟨bb, o + j * 7 + 3, none⟩) e0).trans c3
        have l4 := (World.cell?_of_block (a := ⟨bb, o + j * 7 + 4, none⟩) e0).trans c4
        have l5 := (World.cell?_of_block (a := ⟨bb, o + j * 7 + 5, none⟩) e0).trans c5
        have l6 := (World.cell?_of_block (a := ⟨bb, o + j * 7 + 6, none⟩) e0).trans c6
        go_simp
        try rfl
      go_simp
      refine hK1 _ ?_
      clear hK1 K1
      refine wpPre_e rfl rfl (fun K1 hK1 => ?_)
      apply Exists.intro
      refine And.intro (fun wx hx => ?_) ?_
      · go_simp
        try rfl
      go_simp
      refine hK1 _ ?_
      clear hK1 K1
      refine wpPre_e rfl rfl (fun K1 hK1 => ?_)
      apply Exists.intro
      refine And.intro (fun wx hx => ?_) ?_
      · go_simp
        try rfl
      go_simp
      refine hK1 _ ?_
      clear hK1 K1
      refine wpPre_e rfl rfl (fun K1 hK1 => ?_)
      apply Exists.intro
      refine And.intro (fun wx hx => ?_) ?_
      · go_simp
        try rfl
      go_simp
      refine hK1 _ ?_
      clear hK1 K1
      refine wpPre_e rfl rfl (fun K1 hK1 => ?_)
      apply Exists.intro
      refine And.intro (fun wx hx => ?_) ?_
      · go_simp
        try rfl
      go_simp
      refine hK1 _ ?_
      clear hK1 K1
      refine wpPre_e rfl rfl (fun K1 hK1 => ?_)
      apply Exists.intro
      refine And.intro (fun wx hx => ?_) ?_
      · go_simp
        try rfl
      go_simp
      refine hK1 _ ?_
      clear hK1 K1
      refine wpPre_e rfl rfl (fun K1 hK1 => ?_)
      apply Exists.intro
      refine And.intro (fun wx hx => ?_) ?_
      · have e0 := hx.resolve_left (by decide)
        have l0 := (World.cell?_of_block (a := ⟨bb, o + j * 7, none⟩) e0).trans c0
        have l1 := (World.cell?_of_block (a := ⟨bb, o + j * 7 + 1, none⟩) e0).trans c1
        have l2 := (World.cell?_of_block (a := ⟨bb, o + j * 7 + 2, none⟩) e0).trans c2
        have l3 := (World.cell?_of_block (a := ⟨bb, o + j * 7 + 3, none⟩) e0).trans c3
        have l4 := (World.cell?_of_block (a := ⟨bb, o + j * 7 + 4, none⟩) e0).trans c4
        have l5 := (World.cell?_of_block (a := ⟨bb, o + j * 7 + 5, none⟩) e0).trans c5
        have l6 := (World.cell?_of_block (a := ⟨bb, o + j * 7 + 6, none⟩) e0).trans c6
        go_simp
        try rfl
      go_simp
      refine hK1 _ ?_
      clear hK1 K1
      refine wpPre_nil ?_
      refine wpTr_e rfl (fun K1 hK1 => ?_)
      refine step_call rfl 62 #[.tmp 21, .tmp 26] _ rfl Try.f62 Try.func62 (by kernel_rfl) rfl #[.pointer (some ⟨R.rb, 0, none⟩), .agg #[.string x.r.key, .int .i64 x.r.v.kind, .int .i64 x.r.v.int, .string x.r.v.text, .slice x.r.v.p x.r.v.n x.r.v.c, .slice x.r.p x.r.n x.r.c]] rfl _ (HC.out _ (Below.refl _ _).drew) (fun e w2 hP => ?_)
      obtain ⟨u, R2, rfl, hu⟩ := hP
      obtain ⟨hF, hal, hRj, hNx, hBt, hCn⟩ := HX.out
      have hdr : Below wr.heap.size wr wr.drew := (Below.refl _ _).drew
      have hbu : But Rj.hot wr w2 := ((But.refl Rj.hot wr).drew).trans hu.but
      have hnx2 : Nx wr Rj R2 := hu.nx.shift hdr.size
      have hF2 := hF.call hbu hnx2
      have hs2 := hbu.size
      have hsw := hBt.size
      have hu2 : IT.In w2 (fun b => w.heap.size ≤ b ∧ u5.ownBlock ≠ some b ∧ ¬ R2.hot b) ⟨x.mark, u⟩ := by
        refine ⟨hu.in_.mono fun b hb hl => ⟨by have := hb.1; have := hdr.size; omega, fun e => ?_, hb.2⟩, HM.out.1, HM.out.2⟩
        have := (hF.row.lt b e).2
        have := hb.1
        have := hdr.size
        omega
      have HY : Hid (FillT w.heap.size w2 R2 u5 j g ∧ IT.In w2 (fun b => w.heap.size ≤ b ∧ u5.ownBlock ≠ some b ∧ ¬ R2.hot b) ⟨x.mark, u⟩ ∧ RT.Alike x.r u ∧ Rm base w2 R2 ∧ Nx w R R2 ∧ But R.hot w w2 ∧ (∀ q, q < 10 → (R2.L q).length ≤ (R.L q).length + 2 * l.sumI (j + 1))) := ⟨hF2, hu2, hu.alike, hu.rm, hNx.trans hnx2 hsw, hBt.nx hNx hbu, fun q hq => by have h1 := hCn q hq; have h2 := hu.cnt q hq; have h3 := HSm.out.2; omega⟩
      have hkb : w2.heap[bb]? = wr.heap[bb]? := hbu.block bb hbl2 HNo.out
      have hsz2 : w.heap.size ≤ w2.heap.size := by omega
      have hszw := hbu.size
      clear hF hal hRj hNx hBt hCn hF2 hu2 hu hs2 hsw hnx2 hbu hdr
      refine ⟨_, rfl, ?_⟩
      simp only [RT.val]
      go_simp
      refine hK1 _ _ (fun _ => hkb) ?_
      clear hK1 K1 c0 c1 c2 c3 c4 c5 c6
      refine wpPre_e rfl rfl (fun K1 hK1 => ?_)
      apply Exists.intro
      refine And.intro (fun wx hx => ?_) ?_
      · go_simp
        try rfl
      go_simp
      refine hK1 _ ?_
      clear hK1 K1
      refine wpPre_nil ?_
      refine wpTr_e rfl (fun K1 hK1 => ?_)
      go_simp
      refine hK1 _ _ (fun _ => (Below.heap_alloc _ _ _ (Nat.lt_of_lt_of_le hbl2 hszw)).trans hkb) ?_
      clear hK1 K1 hkb hszw
      refine wpPre_nil ?_
      refine wpTr_e rfl (fun K1 hK1 => ?_)
      have hba : Below w2.heap.size w2 (w2.alloc (.cells #[.int .i64 x.mark, .string u.key, .int .i64 u.v.kind, .int .i64 u.v.int, .string u.v.text, .slice u.v.p u.v.n u.v.c, .slice u.p u.n u.c] 35)) := (Below.refl _ _).alloc (Nat.le_refl _) _
      have hnews : ∀ q u', (elItem.cells ⟨x.mark, u⟩)[q]? = some u' → (w2.alloc (.cells #[.int .i64 x.mark, .string u.key, .int .i64 u.v.kind, .int .i64 u.v.int, .string u.v.text, .slice u.v.p u.v.n u.v.c, .slice u.p u.n u.c] 35)).cell? ((⟨w2.heap.size, 0, none⟩ : Addr).add q) = some u' := fun q u' hu => by
        rw [Go.WideShapes.add_plain, (Box.new w2 #[.int .i64 x.mark, .string u.key, .int .i64 u.v.kind, .int .i64 u.v.int, .string u.v.text, .slice u.v.p u.v.n u.v.c, .slice u.p u.n u.c] 35).cell]
        rw [show 0 + q = q by omega]
        simpa [elItem, IT.cells] using hu
      have hRow := (HY.out.1.below hba).row
      refine step_app rfl (.tmp 15) (.tmp 29) 22 35 i0 _ 7 104 HKd.out rfl w.heap.size u5 j _ rfl hRow ⟨w2.heap.size, 0, none⟩ 1 1 (elItem.cells ⟨x.mark, u⟩) rfl rfl hnews (elItem.one _) (by omega) (by omega) (by have := hba.size; omega) ?_
      intro v3 w3 ho3 hg3 hn3
      have HN3 : Hid (FillT w.heap.size w3 R2 v3 (j + 1) (fun q => if q < j then g q else ⟨x.mark, u⟩) ∧ (∀ q, q < j + 1 → IT.Alike (l.item q) (if q < j then g q else ⟨x.mark, u⟩)) ∧ Rm base w3 R2 ∧ Nx w R R2 ∧ But R.hot w w3 ∧ (∀ q, q < 10 → (R2.L q).length ≤ (R.L q).length + 2 * l.sumI (j + 1))) := by
        obtain ⟨hF2, hu2, hua, hurm, hNx2, hB2, hC2⟩ := HY.out
        refine ⟨(hF2.below hba).push (fun b hb => (hurm.below hba).footlt hb) (hu2.below hba) ho3 hg3 hn3, fun q hq => ?_, (hF2.below hba).room (hurm.below hba) hg3, hNx2, ((hB2.trans (But.ofBelow hba))).grown hg3 fun b hb hl => absurd (hF2.row.lt b hb).1 (by omega), hC2⟩
        by_cases hqj : q < j
        · rw [if_pos hqj]; exact HX.out.2.1 q hqj
        · rw [if_neg hqj]
          obtain rfl : q = j := by omega
          rw [← HXe.out]
          exact ⟨rfl, hua⟩
      clear ho3 hg3 hn3 hRow hnews hba HX HY
      go_simp
      refine hK1 _ _ (fun h => by cases h) ?_
      clear hK1 K1
      refine wpPre_e rfl rfl (fun K1 hK1 => ?_)
      apply Exists.intro
      refine And.intro (fun wx hx => ?_) ?_
      · go_simp
        try rfl
      go_simp
      refine hK1 _ ?_
      clear hK1 K1
      refine wpPre_nil ?_
      refine wpTr_done ?_
      go_wp2
      go_roundw
      case rel => exact ⟨j + 1, _, R2, by omega, by go_num, HN3.out⟩
      case measure => simp [intOf]; omega
    · obtain rfl : j = l.n := by omega
      have HA : Hid ((∀ q, q < l.n → IT.Alike (l.item q) (g q)) ∧ Nx w R Rj ∧ (∀ q, q < 10 → (Rj.L q).length ≤ (R.L q).length + 2 * l.sumI l.n)) := ⟨hal, hNx, hCn⟩
      have HRj : Hid (Rm base wr Rj) := hRj
      have hF1 : FillT w.heap.size wr Rj u5 (l.n + 0) (fun q => if q < l.n then g q else markI (q - l.n)) := hF.congr fun q hq => by rw [if_pos hq]
      clear hal hNx hCn hF hRj
      go_wp2_with fail
      go_loopw [5, 7] (fun v x wr => ∃ m : Nat, m ≤ 40 ∧ x = .int .i64 m ∧ FillT w.heap.size wr Rj v (l.n + m) (fun q => if q < l.n then g q else markI (q - l.n)) ∧ Rm base wr Rj ∧ But R.hot w wr) (fun _ x _ => 40 - (intOf x).toNat)
      case atStart => exact ⟨0, by omega, rfl, hF1, HRj.out, hBt⟩
      case round =>
        obtain ⟨m, hm, rfl, hFm, hRm, hBm⟩ := hrel
        clear hF1 hBt
        by_cases hlt4 : m < 40
        · have hlt4' : (m : Int) < 40 := by omega
          have HLo := lot_any m (by omega)
          have HX : Hid (FillT w.heap.size wr Rj u5 (l.n + m) (fun q => if q < l.n then g q else markI (q - l.n)) ∧ Rm base wr Rj ∧ But R.hot w wr) := ⟨hFm, hRm, hBm⟩
          have hlo : -7702 ≤ lotN m ∧ lotN m ≤ -7701 := by unfold lotN; split <;> omega
          obtain ⟨l1, l2⟩ := hlo
          have hba : Below wr.heap.size wr (wr.alloc (.cells #[.int .i64 (lotN m), .string ⟨#[]⟩, .int .i64 0, .int .i64 0, .string ⟨#[]⟩, .slice none 0 0, .slice none 0 0] 35)) := (Below.refl _ _).alloc (Nat.le_refl _) _
          have hnews : ∀ q u', (elItem.cells (markI m))[q]? = some u' → (wr.alloc (.cells #[.int .i64 (lotN m), .string ⟨#[]⟩, .int .i64 0, .int .i64 0, .string ⟨#[]⟩, .slice none 0 0, .slice none 0 0] 35)).cell? ((⟨wr.heap.size, 0, none⟩ : Addr).add q) = some u' := fun q u' hu => by
            rw [Go.WideShapes.add_plain, (Box.new wr #[.int .i64 (lotN m), .string ⟨#[]⟩, .int .i64 0, .int .i64 0, .string ⟨#[]⟩, .slice none 0 0, .slice none 0 0] 35).cell]
            rw [show 0 + q = q by omega]
            rw [← hu]
            simp [elItem, IT.cells, markI, rz, VT.kind, VT.int, VT.text, VT.p, VT.n, VT.c]
          have hRow := (hFm.below hba).row
          have hsw := hBm.size
          have HBA := hid hba
          clear hFm hRm hBm hba
          go_wp2_with (go_at_call 63; refine (HLo _).mono ?_)
          rintro e w2 ⟨rfl, hw2⟩
          subst w2
          go_wp2_with (at_builtin; refine wpList_app rfl (.tmp 35) (.tmp 39) 22 35 i0 _ 7 104 HKd.out rfl w.heap.size u5 (l.n + m) _ rfl hRow ⟨wr.heap.size, 0, none⟩ 1 1 (elItem.cells (markI m)) rfl rfl hnews (elItem.one _) ?_ ?_ ?_ ?_)
          · omega
          · omega
          · simp; omega
          intro v5 w5 ho5 hg5 hn5
          obtain ⟨hF4, hR4, hB4⟩ := HX.out
          have ha := HBA.out
          have HF5 : Hid (FillT w.heap.size w5 Rj v5 (l.n + (m + 1)) (fun q => if q < l.n then g q else markI (q - l.n))) := by
            have h := (hF4.below ha).push (u := markI m) (fun b hb => (hR4.below ha).footlt hb) (markI_in _ _ m) ho5 hg5 hn5
            refine h.congr fun q hq => ?_
            by_cases h1 : q < l.n + m
            · simp only [if_pos h1]
            · obtain rfl : q = l.n + m := by omega
              rw [if_neg h1, if_neg (by omega), Nat.add_sub_cancel_left]
          have HR5 : Hid (Rm base w5 Rj) := (hF4.below ha).room (hR4.below ha) hg5
          have HB5 : Hid (But R.hot w w5) := (hB4.alloc _).grown hg5 fun b hb hl => absurd (hF4.row.lt b hb).1 (by omega)
          clear hF4 hR4 hB4 ha ho5 hg5 hn5 hRow HX HBA hnews
          go_wp2
          go_roundw
          case rel => exact ⟨m + 1, by omega, by go_num, HF5.out, HR5.out, HB5.out⟩
          case measure => simp [intOf]; omega
        · obtain rfl : m = 40 := by omega
          obtain ⟨gb, cap, hv, hgB, hgl, hcap⟩ : ∃ gb cap, u5 = .slice (some ⟨gb, 0, none⟩) (l.n + 40) cap ∧ w.heap.size ≤ gb ∧ gb < wr.heap.size ∧ l.n + 40 ≤ cap := by
            have hlt := hFm.row.lt
            obtain ⟨_, ⟨hv, h0⟩ | ⟨gb, cap, cur, hv, hbg, hh, hnc, _⟩⟩ := id hFm.row
            · omega
            · exact ⟨gb, cap, hv, hbg, (hlt gb (by rw [hv]; rfl)).2, hnc⟩
          subst hv
          have hrow3 := hRm.row 8 (by omega)
          have hb3 := hRm.box.cell 8
          rw [HA.out.2.1.rb] at hb3
          simp at hb3
          have hl3 : (Rj.L 8).length < 100000 := by
            have h1 := HA.out.2.2 8 (by omega)
            have h2 := HCn.out 8 (by omega)
            have h3 := HSu.out
            omega
          have HX : Hid (FillT w.heap.size wr Rj (.slice (some ⟨gb, 0, none⟩) (l.n + 40) cap) (l.n + 40) (fun q => if q < l.n then g q else markI (q - l.n)) ∧ Rm base wr Rj ∧ But R.hot w wr) := ⟨hFm, hRm, hBm⟩
          have hbw : base ≤ wr.heap.size := Nat.le_trans hbase hBm.size
          clear hFm hRm hBm
          go_wp2_with (at_builtin; refine wpList_app rfl (.tmp 45) (.tmp 47) 94 22 i1 _ 1 24 HKd1.out rfl base (Rj.F 8) (Rj.L 8).length ((Rj.L 8).map Made.val) rfl (hrow3.alloc _) ⟨wr.heap.size, 0, none⟩ 1 1 [.slice (some ⟨gb, 0, none⟩) (l.n + 40) cap] rfl rfl (cell_one_new _ _ _) ?_ ?_ ?_ ?_ ?_)
          · intro u hu
            simp only [List.mem_singleton] at hu
            subst hu
            rfl
          · omega
          · omega
          · simp; omega
          intro v5 w5 ho5 hg5 hn5
          obtain ⟨hFm, hRm, hBm⟩ := HX.out
          have hmk : Marks wr 8 ⟨gb, l.n + 40, cap⟩ := by
            refine ⟨⟨by show 40 ≤ l.n + 40; omega, by show l.n + 40 ≤ 281474976710656; omega⟩, fun q hq r hr => ?_⟩
            have hq4 : q < 40 := hq
            have hr4 : r < 7 := hr
            have hsome : ∃ u, (elItem.cells (markI q))[r]? = some u := ⟨(elItem.cells (markI q))[r]'(by rw [elItem.len]; exact hr4), List.getElem?_eq_getElem _⟩
            obtain ⟨u, hu⟩ := hsome
            have h1 := hFm.at_ rfl (show l.n + q < l.n + 40 by omega) (r := r) (u := u) (by rw [if_neg (by omega), Nat.add_sub_cancel_left]; exact hu)
            show wr.cell? ⟨gb, (l.n + 40 - 40 + q) * 7 + r, none⟩ = (elItem.cells (markI q))[r]?
            rw [hu, ← h1]
            congr 2
            omega
          have hsep := hFm.sep gb rfl
          have hput := hRm.put (i := 8) (v := v5) (x := ⟨gb, l.n + 40, cap⟩) (by omega) hmk hgl (fun h => hsep (.inl h)) ((Below.refl _ _).alloc (Nat.le_refl _) _) ho5 hg5 hn5 hl3
          obtain ⟨q5, e5, hv5⟩ := ownsRow_slice ho5
          obtain ⟨x3, y3, z3⟩ : w5.cell? ⟨R.rb, 8, none⟩ = some (Rj.F 8) ∧ w5.frozen? ⟨R.rb, 8, none⟩ = false ∧ R.rb < w5.heap.size := by
            have h := (hRm.box.below ((Below.refl _ _).alloc (Nat.le_refl _) (.cells #[.slice (some ⟨gb, 0, none⟩) (l.n + 40) cap] 22)))
            have h2 := h.kept (hg5.block _ h.lt fun e => hRm.off 8 (by omega) e.symm)
            rw [hrb] at h2
            exact ⟨by have := h2.cell 8; simpa using this, h2.frozen 8, h2.lt⟩
          subst hv5
          have HP : Hid (TPost base w R l (.returned (.slice (some ⟨gb, 0, none⟩) l.n (l.n + 40))) (w5.setCell ⟨R.rb, 8, none⟩ (.slice q5 ((Rj.L 8).length + 1) e5))) := by
            rw [hrb] at hput
            exact items_post hnn HA.out.1 HA.out.2.1 hgB hgl hFm hBm hput
          clear hFm hRm hBm hmk hput ho5 hg5 hn5 hrow3 HX
          go_wp2
          go_ret
          exact HP.out
end Go.Proofs.Ytpldokahoamdpaa
