import Derived.Test.YtpknlbibijheaabPack22
namespace Go.Proofs.Ytpknlbibijheaab
open Go.RowKit
set_option maxRecDepth 8000

/-- what at answers: the cell of a key in memory of its own, or none -/
def AtQ (l : LT VT) (g : ByteArray) (w : World) (e : Ending) (w' : World) : Prop := Below w.heap.size w w' ∧ ((∃ j u, j < l.n ∧ (l.item j).text = g ∧ (∀ q, q < j → (l.item q).text ≠ g) ∧ e = .returned (.tuple #[.agg #[.string g, .slice (VT.p u) u.n u.c], .bool true]) ∧ VT.Alike (l.item j) u ∧ VT.In w' (fun b => w.heap.size ≤ b) u) ∨ (¬ keyIn l.toL g ∧ e = .returned (.tuple #[.agg #[.string ⟨#[]⟩, .slice none 0 0], .bool false])))
set_option maxHeartbeats 8000000 in
theorem rat_any (l : LT VT) (g : ByteArray) (w : World) (S : Nat → Prop) (hl : LT.In elCell w S l) (hz : CSz l) :
    Calls Try.prog 22 #[.slice l.p l.n l.c, .string g] w fun e w' => AtQ l g w e w' := by
  have hnn := hl.nn
  obtain ⟨i0, Kd⟩ := kindV
  have HKd := hid Kd
  obtain ⟨W, hW⟩ : ∃ X, X = w.alloc (.cells #[.string ⟨#[]⟩, .slice none 0 0] 45) := ⟨_, rfl⟩
  have hB : Below w.heap.size w W := by rw [hW]; exact (Below.refl _ _).alloc (Nat.le_refl _) _
  have hx : Box W w.heap.size #[.string ⟨#[]⟩, .slice none 0 0] 45 := by rw [hW]; exact Box.new _ _ _
  have hWs : W.heap.size = w.heap.size + 1 := by rw [hW]; simp
  have H := hid (hl.below hB)
  have HX := hid hx
  have HB := hid hB
  have HW := hid hW
  have HWs := hid hWs
  have HZ := hid hz
  have c0 := hx.cell 0
  have c1 := hx.cell 1
  have f0 := hx.frozen 0
  have f1 := hx.frozen 1
  have xl := hx.lt
  simp at c0 c1
  clear hl hz hW hB hx Kd hWs
  go_enter Try.func22, Try.ntmps22
  go_upto_region 1 with fail
  rw [← HW.out]
  go_wp2_with fail
  go_loopw [6] (fun x wr => ∃ k : Nat, k ≤ l.n ∧ x = .int .i64 (k : Int) ∧ (∀ q, q < k → (l.item q).text ≠ g) ∧ wr = W) (fun x _ => l.n - (intOf x).toNat)
  case atStart => exact ⟨0, Nat.zero_le _, rfl, fun q hq => absurd hq (by omega), rfl⟩
  case round =>
    obtain ⟨j, hj, rfl, hno, rfl⟩ := hrel
    have HNo := hid hno
    clear hno
    by_cases hlt : j < l.n
    · have hlt' : (j : Int) < (l.n : Int) := by omega
      obtain ⟨b1, o1, hp, _, hl1, ha⟩ := H.out.at_ (by omega)
      have a0 : wr.cell? ⟨b1, o1 + j * 2, none⟩ = some (.string (l.item j).text) := ha j hlt 0 _ rfl
      have a1 : wr.cell? ⟨b1, o1 + j * 2 + 1, none⟩ = some (.slice (l.item j).p (l.item j).n (l.item j).c) := ha j hlt 1 _ rfl
      have HIt : Hid (VT.In wr S (l.item j)) := H.out.each j hlt
      rw [hp]
      clear ha hp
      by_cases hs : (l.item j).text = g
      case neg =>
        have HS := hid hs
        have hsb := str_ne hs
        clear hs
        go_wp2
        go_roundw
        case rel =>
          refine ⟨j + 1, by omega, by go_num, fun q hq => ?_, by first | rfl | trivial⟩
          by_cases hqk : q < j
          · exact HNo.out q hqk
          · obtain rfl : q = j := by omega
            exact HS.out
        case measure => simp [intOf]; omega
      have HSg := hid hs
      rw [hs] at a0
      clear hs
      have hin := HIt.out.fit.nn
      have HTot : Hid ((l.item j).total ≤ 10000) := HZ.out.item j hlt
      obtain ⟨wo, hwo⟩ : ∃ x, x = wr := ⟨_, rfl⟩
      subst hwo
      obtain ⟨W2, hW2⟩ : ∃ X, X = wo.alloc (.cells #[.string g, .slice none 0 0] 45) := ⟨_, rfl⟩
      have hB2 : Below wo.heap.size wo W2 := by rw [hW2]; exact (Below.refl _ _).alloc (Nat.le_refl _) _
      have hx2 : Box W2 wo.heap.size #[.string g, .slice none 0 0] 45 := by rw [hW2]; exact Box.new _ _ _
      have HS2 : Hid (W2.heap.size = wo.heap.size + 1) := by show _ = _; rw [hW2]; simp
      have HX2 := hid hx2
      have HB2 := hid hB2
      have HW2 := hid hW2
      clear hB2 hx2 hW2
      go_upto_region 6 with fail
      rw [← HW2.out]
      go_wp2_with fail
      go_loopw [8] (fun x wr => ∃ (k : Nat) (v : Value) (h : Nat → VT), k ≤ (l.item j).n ∧ x = .int .i64 (k : Int) ∧ Box wr wo.heap.size #[.string g, v] 45 ∧ OwnL elVal W2.heap.size wr v k h ∧ (∀ q, q < k → VT.Alike ((l.item j).item q) (h q)) ∧ Below wo.heap.size wo wr ∧ W2.heap.size ≤ wr.heap.size) (fun x _ => (l.item j).n - (intOf x).toNat)
      case atStart => exact ⟨0, _, (l.item j).item, Nat.zero_le _, rfl, HX2.out, ⟨World.ownsRow_nil _ _ _ _, fun j hj => absurd hj (by omega)⟩, fun q hq => absurd hq (by omega), HB2.out, Nat.le_refl _⟩
      case round =>
        obtain ⟨k, v, h, hk, rfl, hbx, hO, hal, hbel, hsz⟩ := hrel
        have HBx := hid hbx
        have HO := hid hO
        have HA := hid hal
        have HBl := hid hbel
        have HSz := hid hsz
        have b1l : b1 < wr.heap.size := Nat.lt_of_lt_of_le hl1 hbel.size
        have d1 : wr.cell? ⟨b1, o1 + j * 2 + 1, none⟩ = some (.slice (l.item j).p (l.item j).n (l.item j).c) := (World.cell?_of_block (a := ⟨b1, o1 + j * 2 + 1, none⟩) (hbel.block b1 hl1)).trans a1
        have v1 := hbx.cell 1
        have vf := hbx.frozen 1
        have vl := hbx.lt
        simp at v1
        clear hbx hO hal hbel hsz
        by_cases hlk : k < (l.item j).n
        · have hlk' : (k : Int) < ((l.item j).n : Int) := by omega
          obtain ⟨b2, o2, hp2, _, hl2, ha2⟩ := HIt.out.at_ (show 0 < (l.item j).n by omega)
          obtain ⟨e0, e1, e2, e3⟩ := (ha2 k hlk).kept (HBl.out.block b2 hl2)
          have b2l : b2 < wr.heap.size := Nat.lt_of_lt_of_le hl2 HBl.out.size
          have htk : ((l.item j).item k).total ≤ 10000 := by have := VT.item_total (l.item j) hlk; have := HTot.out; omega
          have HC := hid (rv5 ((l.item j).item k) wr (fun b => S b ∧ b < wo.heap.size) ((VT.In.mono (HIt.out.sub hlk) fun b hb hl => ⟨hb, hl⟩).kept HBl.out.size (fun b hb _ => HBl.out.block b hb.2)) htk)
          unfold VT.val at HC
          rw [hp2] at d1
          clear ha2 hp2 htk
          go_wp2_with fail
          refine HC.out.mono ?_
          rintro e w2_ ⟨u, rfl, hal2, hin2_, hb2_⟩
          obtain ⟨w2, hw2⟩ : ∃ X, X = w2_.alloc (.cells #[.int .i64 u.kind, .int .i64 u.int, .string u.text, .slice u.p u.n u.c] 70) := ⟨_, rfl⟩
          have hbx2 : Below w2_.heap.size w2_ w2 := by rw [hw2]; exact (Below.refl _ _).alloc (Nat.le_refl _) _
          have hxb : Box w2 w2_.heap.size #[.int .i64 u.kind, .int .i64 u.int, .string u.text, .slice u.p u.n u.c] 70 := by rw [hw2]; exact Box.new _ _ _
          have hb2 : Below wr.heap.size wr w2 := hb2_.trans (hbx2.mono hb2_.size)
          have hin2 := hin2_.below hbx2
          have q0 := hxb.cell 0
          have q1 := hxb.cell 1
          have q2 := hxb.cell 2
          have q3 := hxb.cell 3
          have ql := hxb.lt
          simp at q0 q1 q2 q3
          have HW3 := hid hw2
          have hO2 := HO.out.keep hb2.size (fun k _ hl => hb2.block k hl)
          have hu2 : VT.In w2 (fun b => W2.heap.size ≤ b ∧ v.ownBlock ≠ some b) u := hin2.mono fun b hb _ => ⟨Nat.le_trans HSz.out hb, fun e => by have := (HO.out.own.lt b e).2; omega⟩
          have HBx2 := hid (HBx.out.below hb2)
          have HBl2 := hid (HBl.out.trans (hb2.mono HBl.out.size))
          have H2 := hid (And.intro hO2 (And.intro hu2 hal2))
          have hsz2 : W2.heap.size ≤ w2.heap.size := Nat.le_trans HSz.out hb2.size
          have HNw : Hid (∀ j' u', (elVal.cells u)[j']? = some u' → (w2.alloc (.cells #[.int .i64 u.kind, .int .i64 u.int, .string u.text, .slice u.p u.n u.c] 70)).cell? ((⟨w2.heap.size, 0, none⟩ : Addr).add j') = some u') := fun j' u' hu => by
            rw [Go.WideShapes.add_plain, (Box.new w2 #[.int .i64 u.kind, .int .i64 u.int, .string u.text, .slice u.p u.n u.c] 70).cell]
            rw [show 0 + j' = j' by omega]
            simpa [elVal, VT.cells] using hu
          clear hw2 hbx2 hxb hb2 hin2 hb2_ hin2_ hO2 hu2 hal2 v1 vf vl d1 e0 e1 e2 e3 HC
          have v1 := HBx2.out.cell 1
          have vl := HBx2.out.lt
          simp at v1
          have hkn : k ≤ 10000 := by have := VT.total_eq (l.item j); have := HTot.out; omega
          go_upto_region 10 with fail
          rw [← HW3.out]
          go_wp2_with (at_builtin; refine wpList_app rfl (.tmp 45) (.tmp 47) 42 70 i0 _ 4 56 HKd.out rfl W2.heap.size v k _ rfl (H2.out.1.own.alloc _) ⟨w2.heap.size, 0, none⟩ 1 1 (elVal.cells u) rfl rfl HNw.out (elVal.one u) (by omega) (by omega) (by simp; omega) ?_)
          intro v3 w3 ho3 hg3 hn3
          obtain ⟨pp, cc, rfl⟩ := ownsRow_slice ho3
          obtain ⟨hO2, hu2, hal2⟩ := H2.out
          have ha : Below w2.heap.size w2 (w2.alloc (.cells #[.int .i64 u.kind, .int .i64 u.int, .string u.text, .slice u.p u.n u.c] 70)) := (Below.refl _ _).alloc (Nat.le_refl _) _
          have hO3 := (hO2.keep ha.size (fun k _ hl => ha.block k hl)).push (hu2.below ha) ho3 hg3 hn3
          have hvb : v.ownBlock ≠ some wo.heap.size := fun e => by
            have := (hO2.own.lt _ e).1
            have := HS2.out
            omega
          have hbx3 : Box w3 wo.heap.size #[.string g, v] 45 := (HBx2.out.below ha).kept (hg3.block _ (by have := HBx2.out.lt; simp; omega) (fun e => hvb e.symm))
          have hbl3 : Below wo.heap.size wo w3 := (HBl2.out.trans (ha.mono HBl2.out.size)).grown hg3 (by have := HBl2.out.size; simp; omega) (fun k hk => by have := (hO2.own.lt k hk).1; have := HS2.out; omega)
          have HA3 : Hid (∀ q, q < k + 1 → VT.Alike ((l.item j).item q) (if q < k then h q else u)) := by
            intro q hq
            by_cases hqk : q < k
            · rw [if_pos hqk]; exact HA.out q hqk
            · rw [if_neg hqk]
              obtain rfl : q = k := by omega
              exact hal2
          have hbt : But (fun k => k = wo.heap.size) w3 (w3.setCell ⟨wo.heap.size, 1, none⟩ (.slice pp (k + 1) cc)) := (But.one w3 wo.heap.size).setAt 1 (.slice pp (k + 1) cc)
          have HN : Hid (Box (w3.setCell ⟨wo.heap.size, 1, none⟩ (.slice pp (k + 1) cc)) wo.heap.size #[.string g, .slice pp (k + 1) cc] 45 ∧ OwnL elVal W2.heap.size (w3.setCell ⟨wo.heap.size, 1, none⟩ (.slice pp (k + 1) cc)) (.slice pp (k + 1) cc) (k + 1) (fun q => if q < k then h q else u) ∧ Below wo.heap.size wo (w3.setCell ⟨wo.heap.size, 1, none⟩ (.slice pp (k + 1) cc)) ∧ W2.heap.size ≤ (w3.setCell ⟨wo.heap.size, 1, none⟩ (.slice pp (k + 1) cc)).heap.size) :=
            ⟨by simpa using hbx3.set 1 (.slice pp (k + 1) cc), hO3.keep hbt.size (fun q hq hl => hbt.block q hl (fun e => by have := HS2.out; omega)), hbl3.trans (hbt.below hbl3.size fun q hq => by omega), by have h1 := hg3.size; have h2 := hbt.size; simp at h1; omega⟩
          have v1' := hbx3.cell 1
          have vf' := hbx3.frozen 1
          have vl' := hbx3.lt
          simp at v1'
          clear v1 vl ho3 hg3 hn3 hO2 hu2 hal2 ha hO3 hvb hbx3 hbl3 hbt H2 HNw
          go_wp2
          go_roundw
          case rel => exact ⟨k + 1, .slice pp (k + 1) cc, _, by omega, by go_num, HN.out.1, HN.out.2.1, HA3.out, HN.out.2.2.1, HN.out.2.2.2⟩
          case measure => simp [intOf]; omega
        · obtain rfl : k = (l.item j).n := by omega
          obtain ⟨p3, c3, hv, hL⟩ := HO.out.in_ (by omega)
          subst hv
          have HL := hid hL
          clear hL
          have hxr := HX.out.below (HBl.out.mono (by have := HWs.out; omega))
          have z0 := hxr.cell 0
          have z1 := hxr.cell 1
          have zf0 := hxr.frozen 0
          have zf1 := hxr.frozen 1
          have zl := hxr.lt
          have v0 := HBx.out.cell 0
          simp at z0 z1 v0
          have r9 := (hxr.set 0 (.string g)).set 1 (.slice p3 (l.item j).n c3)
          have r0 := r9.cell 0
          have r1 := r9.cell 1
          simp at r0 r1
          clear r9 hxr
          go_wp2
          refine bodyPost_ret (v := .tuple #[.agg #[.string g, .slice p3 (l.item j).n c3], .bool true]) (by simp [results, Try.results22, go_sem, r0, r1]) rfl ⟨((HB.out.trans (HBl.out.mono HB.out.size)).setCell (p := ⟨w.heap.size, 0, none⟩) (Nat.le_refl _) _).setCell (p := ⟨w.heap.size, 1, none⟩) (Nat.le_refl _) _, .inl ⟨j, (l.item j).with ⟨p3, (l.item j).n, c3, h⟩, hlt, HSg.out, HNo.out, ?_, ?_, ?_⟩⟩
          · obtain ⟨k9, i9, s9, n9, p9, c9, f9, h9⟩ := HIt.out.mk_
            rw [h9]; rfl
          · have hal := HA.out
            obtain ⟨k9, i9, s9, n9, p9, c9, f9, h9⟩ := HIt.out.mk_
            rw [h9] at hal ⊢
            exact ⟨rfl, rfl, rfl, rfl, hal⟩
          · have hbt : But (fun q => q = w.heap.size) wr ((wr.setCell ⟨w.heap.size, 0, none⟩ (.string g)).setCell ⟨w.heap.size, 1, none⟩ (.slice p3 (l.item j).n c3)) := ((But.one wr w.heap.size).setAt 0 _).setAt 1 _
            exact VT.with_in HIt.out (((HL.out.mono (S' := fun b => w.heap.size + 1 ≤ b) fun b hb _ => by have := HS2.out; have := HWs.out; omega).but hbt (fun b hb _ e => by omega)).mono fun b hb _ => by omega)
    · obtain rfl : j = l.n := by omega
      have HN : Hid (¬ keyIn l.toL g) := by
        rintro ⟨c, hc, e⟩
        obtain ⟨q, hq, rfl⟩ := LT.mem_toL hc
        exact HNo.out q hq e
      have r9 := (HX.out.set 0 (.string ⟨#[]⟩)).set 1 (.slice none 0 0)
      have r0 := r9.cell 0
      have r1 := r9.cell 1
      simp at r0 r1
      clear r9
      go_wp2
      refine bodyPost_ret (v := .tuple #[.agg #[.string ⟨#[]⟩, .slice none 0 0], .bool false]) (by simp [results, Try.results22, go_sem, r0, r1]) rfl ⟨(HB.out.setCell (p := ⟨w.heap.size, 0, none⟩) (Nat.le_refl _) _).setCell (p := ⟨w.heap.size, 1, none⟩) (Nat.le_refl _) _, .inr ⟨HN.out, rfl⟩⟩
end Go.Proofs.Ytpknlbibijheaab
