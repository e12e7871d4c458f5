import Derived.Test.YtpldokahoamdpaaPack24
namespace Go.Proofs.Ytpldokahoamdpaa
open Go.RowKit Go.Conc
set_option maxRecDepth 8000
theorem run_app0 (w : World) (ty : TypeId) (base : Option Addr) (n c : Nat) (h : n ≤ c) : (Builtin.append_ #[22, 22] ty #[.slice base n c, .slice none 0 0]).run Try.prog w = .ok (.slice base n c) w := by
  obtain ⟨i0, Kd⟩ := kindIt
  cases base <;> simp [Builtin.append_, run_underlying Kd.ht, sizeOf, typeInfo, Kd.hi, h, storeCells, Builtin.lenOf, Builtin.firstCells]
set_option maxRecDepth 60000 in
set_option maxHeartbeats 4000000 in
/-- List -/
theorem rlist (w : World) (Z : Nat → Prop) (b : Nat) (R : Rf) (h : RfI w Z b R) : Calls Try.prog 53 #[.pointer (some ⟨b, 0, none⟩)] w fun e w' => ∃ u : LT IT, e = .returned (.slice u.p u.n u.c) ∧ LAlk CopyI R.l u ∧ LT.In elItem w' (fun k => w.heap.size ≤ k) u ∧ Below w.heap.size w w' := by
  obtain ⟨i0, Kd⟩ := kindIt
  have HKd := hid Kd
  have hlen := h.len
  have HR := hid h
  have HI := hid h.in_
  clear h Kd
  go_enter Try.func53, Try.ntmps53
  go_wp2_with fail
  go_loopw [3, 4] (fun v x wr => ∃ (k : Nat) (g : Nat → IT), k ≤ R.l.n ∧ x = .int .i64 (k : Int) ∧ OwnL elItem w.heap.size wr v k g ∧ (∀ q, q < k → CopyI (R.l.item q) (g q)) ∧ Below w.heap.size w wr) (fun _ x _ => R.l.n - (intOf x).toNat)
  case atStart => exact ⟨0, R.l.item, Nat.zero_le _, rfl, ⟨World.ownsRow_nil _ _ _ _, fun j hj => absurd hj (by omega)⟩, fun q hq => absurd hq (by omega), Below.refl _ _⟩
  case round =>
    obtain ⟨k, g, hk, rfl, hO, hal, hbel⟩ := hrel
    have HO := hid hO
    have HA := hid hal
    have HB := hid hbel
    have hRr := HR.out.below hbel
    have c2 := hRr.c2
    have bl := hRr.box.lt
    clear hO hal hbel hRr
    by_cases hlt : k < R.l.n
    · have hlt' : (k : Int) < (R.l.n : Int) := by omega
      obtain ⟨bb, o, hp, hSb, hbb, hat⟩ := HI.out.at_ (by omega)
      rw [hp] at c2
      have hcell : ∀ r u, (elItem.cells (R.l.item k))[r]? = some u → wr.cell? ⟨bb, o + k * 7 + r, none⟩ = some u := fun r u hu => (World.cell?_of_block (a := ⟨bb, o + k * 7 + r, none⟩) (HB.out.block bb hbb)).trans (hat k hlt r u hu)
      obtain ⟨x, hx⟩ : ∃ x, x = R.l.item k := ⟨_, rfl⟩
      have hitx := HR.out.it k hlt
      rw [← hx] at hcell hitx
      have e0 : wr.cell? ⟨bb, o + k * 7, none⟩ = some (.int .i64 x.mark) := hcell 0 _ rfl
      have e1 := hcell 1 _ rfl
      have e2 := hcell 2 _ rfl
      have e3 := hcell 3 _ rfl
      have e4 := hcell 4 _ rfl
      have e5 := hcell 5 _ rfl
      have e6 := hcell 6 _ rfl
      have HC := hid (ritem x wr _ (hitx.1.below HB.out) hitx.2.sz hitx.2.m)
      have HXk := hid hx
      clear hcell hat hitx hx
      go_wp2_with fail
      refine HC.out.mono ?_
      rintro e w2_ ⟨u, rfl, hal2, hin2_, hb2_⟩
      obtain ⟨w2, hw2⟩ : ∃ V, V = w2_.alloc (.cells #[.int .i64 u.mark, .string u.r.key, .int .i64 u.r.v.kind, .int .i64 u.r.v.int, .string u.r.v.text, .slice u.r.v.p u.r.v.n u.r.v.c, .slice u.r.p u.r.n u.r.c] 35) := ⟨_, rfl⟩
      have hbx : Below w2_.heap.size w2_ w2 := by rw [hw2]; exact (Below.refl _ _).alloc (Nat.le_refl _) _
      have hxb : Box w2 w2_.heap.size #[.int .i64 u.mark, .string u.r.key, .int .i64 u.r.v.kind, .int .i64 u.r.v.int, .string u.r.v.text, .slice u.r.v.p u.r.v.n u.r.v.c, .slice u.r.p u.r.n u.r.c] 35 := by rw [hw2]; exact Box.new _ _ _
      have q0 := hxb.cell 0
      have q1 := hxb.cell 1
      have q2 := hxb.cell 2
      have q3 := hxb.cell 3
      have q4 := hxb.cell 4
      have q5 := hxb.cell 5
      have q6 := hxb.cell 6
      simp at q0 q1 q2 q3 q4 q5 q6
      have ql := hxb.lt
      have hb2 : Below wr.heap.size wr w2 := hb2_.trans (hbx.mono hb2_.size)
      have hin2 := hin2_.below hbx
      have HW2 := hid hw2
      clear hw2 hbx hxb hb2_ hin2_
      have hO2 := HO.out.keep hb2.size (fun k _ hl => hb2.block k hl)
      have hu2 : IT.In w2 (fun b => w.heap.size ≤ b ∧ u3.ownBlock ≠ some b) u := hin2.mono fun b hb _ => ⟨Nat.le_trans HB.out.size hb, fun e => by have := (HO.out.own.lt b e).2; omega⟩
      have hsz : w.heap.size ≤ w2.heap.size := Nat.le_trans HB.out.size hb2.size
      have H2 := hid (And.intro hO2 (And.intro hu2 (And.intro hal2 (HB.out.trans (hb2.mono HB.out.size)))))
      have ha : Below w2.heap.size w2 (w2.alloc (.cells #[.int .i64 u.mark, .string u.r.key, .int .i64 u.r.v.kind, .int .i64 u.r.v.int, .string u.r.v.text, .slice u.r.v.p u.r.v.n u.r.v.c, .slice u.r.p u.r.n u.r.c] 35)) := (Below.refl _ _).alloc (Nat.le_refl _) _
      have HAl := hid ha
      have HNw : Hid (∀ j u', (elItem.cells u)[j]? = some u' → (w2.alloc (.cells #[.int .i64 u.mark, .string u.r.key, .int .i64 u.r.v.kind, .int .i64 u.r.v.int, .string u.r.v.text, .slice u.r.v.p u.r.v.n u.r.v.c, .slice u.r.p u.r.n u.r.c] 35)).cell? ((⟨w2.heap.size, 0, none⟩ : Addr).add j) = some u') := fun j u' hu => by
        rw [Go.WideShapes.add_plain, (Box.new w2 #[.int .i64 u.mark, .string u.r.key, .int .i64 u.r.v.kind, .int .i64 u.r.v.int, .string u.r.v.text, .slice u.r.v.p u.r.v.n u.r.v.c, .slice u.r.p u.r.n u.r.c] 35).cell]
        rw [show 0 + j = j by omega]
        simpa [elItem, IT.cells] using hu
      clear hO2 hu2 hal2 hin2 hb2 ha
      clear HC c2 e0 e1 e2 e3 e4 e5 e6
      go_upto_region 6 with fail
      rw [← HW2.out]
      go_wp2_with (at_builtin; refine wpList_app rfl (.tmp 23) (.tmp 25) 22 35 i0 _ 7 104 HKd.out rfl w.heap.size u3 k _ rfl (H2.out.1.own.alloc _) ⟨w2.heap.size, 0, none⟩ 1 1 (elItem.cells u) rfl rfl HNw.out (elItem.one u) (by omega) (by omega) (by simp; omega) ?_)
      intro v3 w3 ho3 hg3 hn3
      obtain ⟨hO2, hu2, hal2, hbel2⟩ := H2.out
      have HO3 := hid ((hO2.keep HAl.out.size (fun k _ hl => HAl.out.block k hl)).push (hu2.below HAl.out) ho3 hg3 hn3)
      have HB3 : Hid (Below w.heap.size w w3) := (hbel2.trans (HAl.out.mono hsz)).grown hg3 (by simp; omega) (fun k hk => (hO2.own.lt k hk).1)
      have HA3 : Hid (∀ q, q < k + 1 → CopyI (R.l.item q) (if q < k then g q else u)) := by
        intro q hq
        by_cases hqk : q < k
        · rw [if_pos hqk]; exact HA.out q hqk
        · rw [if_neg hqk]
          obtain rfl : q = k := by omega
          rw [← HXk.out]
          exact hal2
      clear ho3 hg3 hn3 hO2 hu2 hal2 hbel2 H2 HAl HNw
      go_wp2
      go_roundw
      case rel => exact ⟨k + 1, _, by omega, by go_num, HO3.out, HA3.out, HB3.out⟩
      case measure => simp [intOf]; omega
    · obtain rfl : k = R.l.n := by omega
      have hlt' : ¬ (R.l.n : Int) < (R.l.n : Int) := by omega
      obtain ⟨p3, c3, hv, hL⟩ := HO.out.in_ (by omega)
      have HL := hid hL
      subst hv
      clear hL
      go_wp2
      refine bodyPost_ret (v := .slice p3 R.l.n c3) (by simp [results, Try.results53, go_sem]) rfl ⟨⟨p3, R.l.n, c3, g⟩, rfl, ⟨rfl, HA.out⟩, HL.out, HB.out⟩
/-- what Pull answers and leaves -/
structure RPlQ (w : World) (Z : Nat → Prop) (b : Nat) (R : Rf) (i : Nat) (u : LT RT) (w' : World) : Prop where
  set : ∃ R', R'.l.toL = R.l.toL.take i ++ R.l.toL.drop (i + 1) ∧ R'.shut = R.shut ∧ RSet w Z b R w' R' ∧ LT.In elRec w' (fun k => w.heap.size ≤ k ∧ ¬ R'.C b k) u
  n : u.n = i
  each : ∀ j, j < i → (R.l.item j).mark = 0 ∧ RT.Alike (R.l.item j).r (u.item j)
set_option maxRecDepth 60000 in
set_option maxHeartbeats 8000000 in
/-- Pull -/
theorem rpull (w : World) (Z : Nat → Prop) (b : Nat) (R : Rf) (h : RfI w Z b R) (hZ : ∀ k, Z k → k < w.heap.size) : Calls Try.prog 50 #[.pointer (some ⟨b, 0, none⟩)] w fun e w' => (e = .returned (.tuple #[.int .i64 0, .slice none 0 0]) ∧ (∀ j, j < R.l.n → (R.l.item j).mark = 0) ∧ Below w.heap.size w w') ∨
    ∃ (i : Nat) (u : LT RT), i < R.l.n ∧ 0 < (R.l.item i).mark ∧ e = .returned (.tuple #[.int .i64 (R.l.item i).mark, .slice u.p u.n u.c]) ∧ RPlQ w Z b R i u w' := by
  obtain ⟨i0, Kd⟩ := kindRs
  have HKd := hid Kd
  have hlen := h.len
  have HR := hid h
  have HI := hid h.in_
  have HZ := hid hZ
  clear h Kd hZ
  go_enter Try.func50, Try.ntmps50
  go_wp2_with fail
  go_loopw [4, 5] (fun v x wr => ∃ (k : Nat) (g : Nat → RT), k ≤ R.l.n ∧ x = .int .i64 (k : Int) ∧ OwnL elRec w.heap.size wr v k g ∧ (∀ q, q < k → (R.l.item q).mark = 0 ∧ RT.Alike (R.l.item q).r (g q)) ∧ Below w.heap.size w wr) (fun _ x _ => R.l.n - (intOf x).toNat)
  case atStart => exact ⟨0, fun _ => rz, Nat.zero_le _, rfl, ⟨World.ownsRow_nil _ _ _ _, fun j hj => absurd hj (by omega)⟩, fun q hq => absurd hq (by omega), Below.refl _ _⟩
  case round =>
    obtain ⟨k, g, hk, rfl, hO, hal, hbel⟩ := hrel
    have HO := hid hO
    have HA := hid hal
    have HB := hid hbel
    have hRr := HR.out.below hbel
    have c2 := hRr.c2
    have bl := hRr.box.lt
    have HRr := hid hRr
    clear hO hal hbel hRr
    by_cases hlt : k < R.l.n
    · have hlt' : (k : Int) < (R.l.n : Int) := by omega
      obtain ⟨bb, o, hp, hSb, hbb, hat⟩ := HI.out.at_ (by omega)
      rw [hp] at c2
      have hcell : ∀ r u, (elItem.cells (R.l.item k))[r]? = some u → wr.cell? ⟨bb, o + k * 7 + r, none⟩ = some u := fun r u hu => (World.cell?_of_block (a := ⟨bb, o + k * 7 + r, none⟩) (HB.out.block bb hbb)).trans (hat k hlt r u hu)
      obtain ⟨x, hx⟩ : ∃ x, x = R.l.item k := ⟨_, rfl⟩
      have hitx := HR.out.it k hlt
      rw [← hx] at hcell hitx
      have e0 : wr.cell? ⟨bb, o + k * 7, none⟩ = some (.int .i64 x.mark) := hcell 0 _ rfl
      have e1 : wr.cell? ⟨bb, o + k * 7 + 1, none⟩ = some (.string x.r.key) := hcell 1 _ rfl
      have e2 : wr.cell? ⟨bb, o + k * 7 + 1 + 1, none⟩ = some (.int .i64 x.r.v.kind) := hcell 2 _ rfl
      have e3 : wr.cell? ⟨bb, o + k * 7 + 1 + 2, none⟩ = some (.int .i64 x.r.v.int) := hcell 3 _ rfl
      have e4 : wr.cell? ⟨bb, o + k * 7 + 1 + 3, none⟩ = some (.string x.r.v.text) := hcell 4 _ rfl
      have e5 : wr.cell? ⟨bb, o + k * 7 + 1 + 4, none⟩ = some (.slice x.r.v.p x.r.v.n x.r.v.c) := hcell 5 _ rfl
      have e6 : wr.cell? ⟨bb, o + k * 7 + 1 + 5, none⟩ = some (.slice x.r.p x.r.n x.r.c) := hcell 6 _ rfl
      have HXk := hid hx
      have HIx := hid hitx
      clear hcell hat hitx hx
      by_cases hm : 0 < x.mark
      · have HWo := hid (rwithout wr Z b R HRr.out k hlt)
        have HM := hid hm
        clear e1 e2 e3 e4 e5 e6
        go_wp2_with fail
        refine HWo.out.mono ?_
        rintro e w3 ⟨p3, c3, rfl, ho3, hB3⟩
        have hI3 := HRr.out.below hB3
        clear c2 bl e0
        have c2 := hI3.c2
        have g2 := hI3.box.frozen 2
        have bl := hI3.box.lt
        have hsr := HB.out.size
        have hs3 := hB3.size
        have hLl : (R.l.toL.take k ++ R.l.toL.drop (k + 1)).length = R.l.n - 1 := by simp [LT.toL_len]; omega
        have hSt := RfI.part HRr.out (fun j hj => by have := HZ.out j hj; omega) hB3 (R.l.toL.take k ++ R.l.toL.drop (k + 1)) (fun y hy => by
          rcases List.mem_append.1 hy with e | e
          · exact List.mem_of_mem_take e
          · exact List.mem_of_mem_drop e) (by omega) (R.l.n - 1) hLl p3 c3 ho3
        have hO3 := HO.out.keep hB3.size (fun j _ hl => hB3.block j hl)
        have hs := (But.one w3 b).setAt 2 (.slice p3 (R.l.n - 1) c3)
        have hO4 := hO3.keep hs.size (fun j hj hl => hs.block j hl (by have := HR.out.box.lt; omega))
        have HSt := hid (RSet.trans (RSet.below HR.out HB.out) hSt)
        have hfresh : ∀ j, w.heap.size ≤ j → j < wr.heap.size → ¬ Rf.C ⟨R.room, R.shut, LT.ofL ⟨0, rz⟩ p3 c3 (R.l.toL.take k ++ R.l.toL.drop (k + 1))⟩ b j := fun j h1 h2 hc => by
          rcases hSt.c j hc with e | e
          · have := HR.out.c_lt e; omega
          · omega
        obtain ⟨p4, c4, hv4, hin4⟩ := HO.out.in_ (by omega)
        have HU : Hid (LT.In elRec (w3.setCell ⟨b, 2, none⟩ (.slice p3 (R.l.n - 1) c3)) (fun j => w.heap.size ≤ j ∧ ¬ Rf.C ⟨R.room, R.shut, LT.ofL ⟨0, rz⟩ p3 c3 (R.l.toL.take k ++ R.l.toL.drop (k + 1))⟩ b j) ⟨p4, k, c4, g⟩) := by
          have h1 := LT.In.mono (S' := fun j => w.heap.size ≤ j ∧ j < wr.heap.size) hin4 fun j hj hl => ⟨hj, hl⟩
          have h2 := h1.below hB3
          have h3 := h2.kept hs.size fun j hj hl => hs.block j hl (by have := HR.out.box.lt; omega)
          exact LT.In.mono h3 fun j hj _ => ⟨hj.1, hfresh j hj.1 hj.2⟩
        clear hI3 hB3 hSt hO3 hO4 hs hfresh hin4 ho3 hLl
        rw [hv4]
        go_wp2
        refine bodyPost_ret (v := .tuple #[.int .i64 x.mark, .slice p4 k c4]) (by simp [results, Try.results50, go_sem]) rfl (.inr ⟨k, ⟨p4, k, c4, g⟩, hlt, by rw [← HXk.out]; exact HM.out, by rw [← HXk.out], ⟨⟨⟨R.room, R.shut, LT.ofL ⟨0, rz⟩ p3 c3 (R.l.toL.take k ++ R.l.toL.drop (k + 1))⟩, LT.ofL_toL _ _ _ _, rfl, HSt.out, HU.out⟩, rfl, HA.out⟩⟩)
      · have hm0 : x.mark = 0 := by have := HIx.out.2.m; omega
        have HM := hid hm0
        have HC := hid (rr5 x.r wr _ (HIx.out.1.r.below HB.out) HIx.out.2.sz)
        clear hm0
        go_wp2_with fail
        refine HC.out.mono ?_
        rintro e w2_ ⟨u, rfl, hal2, hin2_, hb2_⟩
        obtain ⟨w2, hw2⟩ : ∃ V, V = w2_.alloc (.cells #[.string u.key, .int .i64 u.v.kind, .int .i64 u.v.int, .string u.v.text, .slice u.v.p u.v.n u.v.c, .slice u.p u.n u.c] 33) := ⟨_, rfl⟩
        have hbx : Below w2_.heap.size w2_ w2 := by rw [hw2]; exact (Below.refl _ _).alloc (Nat.le_refl _) _
        have hxb : Box w2 w2_.heap.size #[.string u.key, .int .i64 u.v.kind, .int .i64 u.v.int, .string u.v.text, .slice u.v.p u.v.n u.v.c, .slice u.p u.n u.c] 33 := by rw [hw2]; exact Box.new _ _ _
        have q0 := hxb.cell 0
        have q1 := hxb.cell 1
        have q2 := hxb.cell 2
        have q3 := hxb.cell 3
        have q4 := hxb.cell 4
        have q5 := hxb.cell 5
        simp at q0 q1 q2 q3 q4 q5
        have ql := hxb.lt
        have hb2 : Below wr.heap.size wr w2 := hb2_.trans (hbx.mono hb2_.size)
        have hin2 := hin2_.below hbx
        have HW2 := hid hw2
        clear hw2 hbx hxb hb2_ hin2_
        have hO2 := HO.out.keep hb2.size (fun k _ hl => hb2.block k hl)
        have hu2 : RT.In w2 (fun b => w.heap.size ≤ b ∧ u4.ownBlock ≠ some b) u := hin2.mono fun b hb _ => ⟨Nat.le_trans HB.out.size hb, fun e => by have := (HO.out.own.lt b e).2; omega⟩
        have hsz : w.heap.size ≤ w2.heap.size := Nat.le_trans HB.out.size hb2.size
        have H2 := hid (And.intro hO2 (And.intro hu2 (And.intro hal2 (HB.out.trans (hb2.mono HB.out.size)))))
        have ha : Below w2.heap.size w2 (w2.alloc (.cells #[.string u.key, .int .i64 u.v.kind, .int .i64 u.v.int, .string u.v.text, .slice u.v.p u.v.n u.v.c, .slice u.p u.n u.c] 33)) := (Below.refl _ _).alloc (Nat.le_refl _) _
        have HAl := hid ha
        have HNw : Hid (∀ j u', (elRec.cells u)[j]? = some u' → (w2.alloc (.cells #[.string u.key, .int .i64 u.v.kind, .int .i64 u.v.int, .string u.v.text, .slice u.v.p u.v.n u.v.c, .slice u.p u.n u.c] 33)).cell? ((⟨w2.heap.size, 0, none⟩ : Addr).add j) = some u') := fun j u' hu => by
          rw [Go.WideShapes.add_plain, (Box.new w2 #[.string u.key, .int .i64 u.v.kind, .int .i64 u.v.int, .string u.v.text, .slice u.v.p u.v.n u.v.c, .slice u.p u.n u.c] 33).cell]
          rw [show 0 + j = j by omega]
          simpa [elRec, RT.cells, VT.cells] using hu
        clear hO2 hu2 hal2 hin2 hb2 ha
        clear HC c2 e0 e1 e2 e3 e4 e5 e6
        go_upto_region 10 with fail
        rw [← HW2.out]
        go_wp2_with (at_builtin; refine wpList_app rfl (.tmp 51) (.tmp 53) 38 33 i0 _ 6 96 HKd.out rfl w.heap.size u4 k _ rfl (H2.out.1.own.alloc _) ⟨w2.heap.size, 0, none⟩ 1 1 (elRec.cells u) rfl rfl HNw.out (elRec.one u) (by omega) (by omega) (by simp; omega) ?_)
        intro v3 w3 ho3 hg3 hn3
        obtain ⟨hO2, hu2, hal2, hbel2⟩ := H2.out
        have HO3 := hid ((hO2.keep HAl.out.size (fun k _ hl => HAl.out.block k hl)).push (hu2.below HAl.out) ho3 hg3 hn3)
        have HB3 : Hid (Below w.heap.size w w3) := (hbel2.trans (HAl.out.mono hsz)).grown hg3 (by simp; omega) (fun k hk => (hO2.own.lt k hk).1)
        have HA3 : Hid (∀ q, q < k + 1 → (R.l.item q).mark = 0 ∧ RT.Alike (R.l.item q).r (if q < k then g q else u)) := by
          intro q hq
          by_cases hqk : q < k
          · rw [if_pos hqk]; exact HA.out q hqk
          · rw [if_neg hqk]
            obtain rfl : q = k := by omega
            rw [← HXk.out]
            exact ⟨HM.out, hal2⟩
        clear ho3 hg3 hn3 hO2 hu2 hal2 hbel2 H2 HAl HNw
        go_wp2
        go_roundw
        case rel => exact ⟨k + 1, _, by omega, by go_num, HO3.out, HA3.out, HB3.out⟩
        case measure => simp [intOf]; omega
    · obtain rfl : k = R.l.n := by omega
      have hlt' : ¬ (R.l.n : Int) < (R.l.n : Int) := by omega
      go_wp2
      refine bodyPost_ret (v := .tuple #[.int .i64 0, .slice none 0 0]) (by simp [results, Try.results50, go_sem]) rfl (.inl ⟨rfl, fun j hj => (HA.out j hj).1, HB.out⟩)
end Go.Proofs.Ytpldokahoamdpaa

namespace Go.Proofs.Ytpldokahoamdpaa
open Go.RowKit Go.Conc
set_option maxRecDepth 8000
theorem wpList_app0 {w : World} {ops : Array Oper} {rest : List Oper} {o : Oper} {a : Act} {Q : Exit → Act → World → Prop} (hgd : o.guard = none) (s x : Operand)
    (ho : o.op = .call { callee := .builtin .append, args := #[s, x], argTypes := #[22, 22] }) (base : Option Addr) (n c : Nat) (hs : a.eval s = .slice base n c) (hx : a.eval x = .slice none 0 0) (hle : n ≤ c)
    (h : wpList Try.prog ops Q rest (a.put o.dst (.slice base n c)) w) : wpList Try.prog ops Q (o :: rest) a w := by
  refine wpList_plain hgd fun K hK => ?_
  have hrun := run_app0 w o.type base n c hle
  unfold Oper.wp
  simp [execOp, ho, resolve, invoke, builtin, hs, hx, hrun, Result.andThen]
  exact hK _ _ h
set_option maxHeartbeats 1000000 in
/-- Refill of a lane that is shut -/
theorem rrefill_shut (w : World) (Z : Nat → Prop) (b : Nat) (R : Rf) (h : RfI w Z b R) (hs : R.shut = true) (p : Option Addr) (n c : Nat) : Calls Try.prog 52 #[.pointer (some ⟨b, 0, none⟩), .slice p n c] w fun e w' => e = .returned (.int .i64 53) ∧ w' = w := by
  have c1 := h.c1
  rw [hs] at c1
  have bl := h.box.lt
  clear h hs
  go_enter Try.func52, Try.ntmps52
  go_wp2
  refine bodyPost_ret (v := .int .i64 53) (by simp [results, Try.results52, go_sem]) rfl ⟨rfl, rfl⟩
/-- what Refill leaves -/
def RRfQ (w : World) (Z : Nat → Prop) (b : Nat) (R : Rf) (l : LT RT) (w' : World) : Prop := ∃ (us : List IT) (R' : Rf), us.length = l.n ∧ (∀ j x, us[j]? = some x → x.mark = 0 ∧ RT.Alike (l.item j) x.r) ∧ R'.l.toL = us ++ R.l.toL ∧ R'.shut = R.shut ∧ RSet w Z b R w' R'
theorem RfI.front {w w1 w2 : World} {Z : Nat → Prop} {b : Nat} {R : Rf} (h : RfI w Z b R) (hZ : ∀ k, Z k → k < w.heap.size) (hB : Below w.heap.size w w1) (l : LT RT) (v : Value) (g : Nat → IT) (hO : OwnL elItem w.heap.size w1 v l.n g) (hA : ∀ q, q < l.n → (g q).mark = 0 ∧ RT.Alike (l.item q) (g q).r) (hsz : ∀ j, j < l.n → (l.item j).size ≤ 10000) (hlen : R.l.n + l.n ≤ 30000) (hsh : R.shut = false)
    (p : Option Addr) (n c : Nat) (hn : n = l.n + R.l.n) (ho : w2.ownsRow w.heap.size 35 7 (.slice p n c) n (((List.range l.n).flatMap fun j => elItem.cells (g j)) ++ R.l.toL.flatMap IT.cells)) (hg : w1.grownBy w2 v.ownBlock) (hnr : Near w1 v (.slice p n c)) : RRfQ w Z b R l (w2.setCell ⟨b, 2, none⟩ (.slice p n c)) := by
  subst hn
  have hB2 : Below w.heap.size w w2 := hB.grown hg hB.size fun k hk => (hO.own.lt k hk).1
  obtain ⟨us, hus⟩ : ∃ us, us = (List.range l.n).map g := ⟨_, rfl⟩
  have hul : us.length = l.n := by rw [hus]; simp
  have hug : ∀ j, j < l.n → us[j]? = some (g j) := fun j hj => by rw [hus]; simp [List.getElem?_range hj]
  have hLl : (us ++ R.l.toL).length = l.n + R.l.n := by rw [List.length_append, hul, LT.toL_len]
  have hrow : (((List.range l.n).flatMap fun j => elItem.cells (g j)) ++ R.l.toL.flatMap IT.cells) = (us ++ R.l.toL).flatMap IT.cells := by
    rw [List.flatMap_append, hus, List.flatMap_map]; rfl
  rw [hrow] at ho
  have hset := RfI.set (w1 := w2) h hZ (But.ofBelow hB2) (LT.ofL ⟨0, rz⟩ p c (us ++ R.l.toL)) (by
    rw [rowsE_toL, LT.ofL_toL]
    show w2.ownsRow 0 35 7 (.slice p (us ++ R.l.toL).length c) (us ++ R.l.toL).length _
    rw [hLl]
    exact ownsRow_mono ho (Nat.zero_le _)) (fun k hk => .inr (by
      have hk2 : (Value.slice p (l.n + R.l.n) c).ownBlock = some k := by rw [← hLl]; exact hk
      exact (ho.lt k hk2).1)) (by show (us ++ R.l.toL).length ≤ 30000; omega) (fun e => by rw [hsh] at e; cases e) (fun j hj => by
    have hown : ∀ k, (Value.slice (LT.ofL ⟨0, rz⟩ p c (us ++ R.l.toL)).p (LT.ofL ⟨0, rz⟩ p c (us ++ R.l.toL)).n (LT.ofL ⟨0, rz⟩ p c (us ++ R.l.toL)).c).ownBlock = some k → (Value.slice p (l.n + R.l.n) c).ownBlock = some k := fun k hk => by rw [← hLl]; exact hk
    have hj2 : j < l.n + R.l.n := by rw [← hLl]; exact hj
    show IT.In w2 _ ((us ++ R.l.toL)[j]?.getD ⟨0, rz⟩) ∧ IT.Fine ((us ++ R.l.toL)[j]?.getD ⟨0, rz⟩)
    by_cases hju : j < l.n
    · rw [List.getElem?_append_left (by omega), hug j hju]
      show IT.In w2 _ (g j) ∧ IT.Fine (g j)
      have ha := hA j hju
      refine ⟨?_, ⟨by rw [ha.2.n, ha.2.v.total]; exact hsz j hju, by rw [ha.1]; exact Int.le_refl _, fun e => absurd ha.1 e⟩⟩
      have h1 := hO.each j hju
      have h2 : IT.In w1 (fun k => (w.heap.size ≤ k ∧ v.ownBlock ≠ some k) ∧ k < w1.heap.size) (g j) := IT.In.mono h1 fun k hk hl => ⟨hk, hl⟩
      have h3 := h2.kept hg.size fun k hk hl => hg.block k hl fun e => hk.1.2 e.symm
      refine h3.mono fun k hk _ => ⟨fun e => by have := h.box.lt; omega, fun e => ?_, fun e => by have := hZ k e; omega⟩
      rcases own_near hnr (hown k e) with e2 | e2
      · exact hk.1.2 e2
      · omega
    · rw [List.getElem?_append_right (by omega), hul, LT.toL_get R.l (by omega)]
      show IT.In w2 _ (R.l.item (j - l.n)) ∧ IT.Fine (R.l.item (j - l.n))
      have h7 := h.it (j - l.n) (by omega)
      refine ⟨((h7.1.mono (S' := fun k => (¬ R.C b k ∧ ¬ Z k) ∧ k < w.heap.size) fun k hk hl => ⟨hk, hl⟩).kept hB2.size fun k hk hl => hB2.block k hl).mono fun k hk _ => ⟨fun e => hk.1.1 (.inl e), fun e => ?_, hk.1.2⟩, h7.2⟩
      have := (ho.lt k (hown k e)).1
      omega)
  refine ⟨us, ⟨R.room, R.shut, LT.ofL ⟨0, rz⟩ p c (us ++ R.l.toL)⟩, hul, fun j x hx => ?_, LT.ofL_toL _ _ _ _, rfl, ?_⟩
  · have hj : j < l.n := by
      rcases Nat.lt_or_ge j l.n with h1 | h1
      · exact h1
      · rw [List.getElem?_eq_none (by omega)] at hx; cases hx
    rw [hug j hj] at hx
    injection hx with hx
    subst hx
    exact hA j hj
  · have e1 : (LT.ofL ⟨0, rz⟩ p c (us ++ R.l.toL)).n = l.n + R.l.n := hLl
    rw [show (Value.slice p (l.n + R.l.n) c) = .slice (LT.ofL ⟨0, rz⟩ p c (us ++ R.l.toL)).p (LT.ofL ⟨0, rz⟩ p c (us ++ R.l.toL)).n (LT.ofL ⟨0, rz⟩ p c (us ++ R.l.toL)).c by rw [e1]; rfl]
    exact hset
set_option maxRecDepth 60000 in
set_option maxHeartbeats 8000000 in
/-- Refill -/
theorem rrefill (w : World) (Z : Nat → Prop) (b : Nat) (R : Rf) (h : RfI w Z b R) (hZ : ∀ k, Z k → k < w.heap.size) (hsh : R.shut = false) (l : LT RT) (S : Nat → Prop) (hin : LT.In elRec w S l) (hsz : ∀ j, j < l.n → (l.item j).size ≤ 10000) (hlen : R.l.n + l.n ≤ 30000) : Calls Try.prog 52 #[.pointer (some ⟨b, 0, none⟩), .slice l.p l.n l.c] w fun e w' => e = .returned (.int .i64 0) ∧ RRfQ w Z b R l w' := by
  obtain ⟨i0, Kd⟩ := kindIt
  have HKd := hid Kd
  have c1 := h.c1
  rw [hsh] at c1
  have bl := h.box.lt
  have HR := hid h
  have HF := hid (fun w1 w2 hB v g hO hA p n c hn ho hg hnr => RfI.front (w1 := w1) (w2 := w2) h hZ hB l v g hO hA hsz hlen hsh p n c hn ho hg hnr)
  have HI := hid hin
  have HS := hid hsz
  clear h Kd hZ hin hsz hsh
  go_enter Try.func52, Try.ntmps52
  go_wp2_with fail
  go_loopw [5, 6] (fun v x wr => ∃ (k : Nat) (g : Nat → IT), k ≤ l.n ∧ x = .int .i64 (k : Int) ∧ OwnL elItem w.heap.size wr v k g ∧ (∀ q, q < k → (g q).mark = 0 ∧ RT.Alike (l.item q) (g q).r) ∧ Below w.heap.size w wr) (fun _ x _ => l.n - (intOf x).toNat)
  case atStart => exact ⟨0, fun _ => ⟨0, rz⟩, Nat.zero_le _, rfl, ⟨World.ownsRow_nil _ _ _ _, fun j hj => absurd hj (by omega)⟩, fun q hq => absurd hq (by omega), Below.refl _ _⟩
  case round =>
    obtain ⟨k, g, hk, rfl, hO, hal, hbel⟩ := hrel
    have HO := hid hO
    have HA := hid hal
    have HB := hid hbel
    clear hO hal hbel c1
    by_cases hlt : k < l.n
    · have hlt' : (k : Int) < (l.n : Int) := by omega
      obtain ⟨bb, o, hp, hSb, hbb, hat⟩ := HI.out.at_ (by omega)
      rw [hp]
      have hcell : ∀ r u, (elRec.cells (l.item k))[r]? = some u → wr.cell? ⟨bb, o + k * 6 + r, none⟩ = some u := fun r u hu => (World.cell?_of_block (a := ⟨bb, o + k * 6 + r, none⟩) (HB.out.block bb hbb)).trans (hat k hlt r u hu)
      have c0 : wr.cell? ⟨bb, o + k * 6, none⟩ = some (.string (l.item k).key) := hcell 0 _ rfl
      have c1 : wr.cell? ⟨bb, o + k * 6 + 1, none⟩ = some (.int .i64 (l.item k).v.kind) := hcell 1 _ rfl
      have c2 : wr.cell? ⟨bb, o + k * 6 + 2, none⟩ = some (.int .i64 (l.item k).v.int) := hcell 2 _ rfl
      have c3 : wr.cell? ⟨bb, o + k * 6 + 3, none⟩ = some (.string (l.item k).v.text) := hcell 3 _ rfl
      have c4 : wr.cell? ⟨bb, o + k * 6 + 4, none⟩ = some (.slice (l.item k).v.p (l.item k).v.n (l.item k).v.c) := hcell 4 _ rfl
      have c5 : wr.cell? ⟨bb, o + k * 6 + 5, none⟩ = some (.slice (l.item k).p (l.item k).n (l.item k).c) := hcell 5 _ rfl
      have HC := hid (rr5 (l.item k) wr (fun b => S b ∧ b < w.heap.size) ((RT.In.mono (HI.out.each k hlt) fun b hb hl => ⟨hb, hl⟩).kept HB.out.size (fun b hb _ => HB.out.block b hb.2)) (HS.out k hlt))
      clear hcell hat
      go_wp2_with fail
      refine HC.out.mono ?_
      rintro e w2_ ⟨u, rfl, hal2, hin2_, hb2_⟩
      obtain ⟨w2, hw2⟩ : ∃ V, V = w2_.alloc (.cells #[.string u.key, .int .i64 u.v.kind, .int .i64 u.v.int, .string u.v.text, .slice u.v.p u.v.n u.v.c, .slice u.p u.n u.c] 33) := ⟨_, rfl⟩
      have hbx : Below w2_.heap.size w2_ w2 := by rw [hw2]; exact (Below.refl _ _).alloc (Nat.le_refl _) _
      have hxb : Box w2 w2_.heap.size #[.string u.key, .int .i64 u.v.kind, .int .i64 u.v.int, .string u.v.text, .slice u.v.p u.v.n u.v.c, .slice u.p u.n u.c] 33 := by rw [hw2]; exact Box.new _ _ _
      have q0 := hxb.cell 0
      have q1 := hxb.cell 1
      have q2 := hxb.cell 2
      have q3 := hxb.cell 3
      have q4 := hxb.cell 4
      have q5 := hxb.cell 5
      simp at q0 q1 q2 q3 q4 q5
      have ql := hxb.lt
      have hb2 : Below wr.heap.size wr w2 := hb2_.trans (hbx.mono hb2_.size)
      have hin2 := hin2_.below hbx
      have HW2 := hid hw2
      clear hw2 hbx hxb hb2_ hin2_
      have hO2 := HO.out.keep hb2.size (fun k _ hl => hb2.block k hl)
      have hu2 : RT.In w2 (fun b => w.heap.size ≤ b ∧ u5.ownBlock ≠ some b) u := hin2.mono fun b hb _ => ⟨Nat.le_trans HB.out.size hb, fun e => by have := (HO.out.own.lt b e).2; omega⟩
      have hsz : w.heap.size ≤ w2.heap.size := Nat.le_trans HB.out.size hb2.size
      have H2 := hid (And.intro hO2 (And.intro hu2 (And.intro hal2 (HB.out.trans (hb2.mono HB.out.size)))))
      have ha : Below w2.heap.size w2 (w2.alloc (.cells #[.int .i64 0, .string u.key, .int .i64 u.v.kind, .int .i64 u.v.int, .string u.v.text, .slice u.v.p u.v.n u.v.c, .slice u.p u.n u.c] 35)) := (Below.refl _ _).alloc (Nat.le_refl _) _
      have HAl := hid ha
      have HNw : Hid (∀ j u', (elItem.cells ⟨0, u⟩)[j]? = some u' → (w2.alloc (.cells #[.int .i64 0, .string u.key, .int .i64 u.v.kind, .int .i64 u.v.int, .string u.v.text, .slice u.v.p u.v.n u.v.c, .slice u.p u.n u.c] 35)).cell? ((⟨w2.heap.size, 0, none⟩ : Addr).add j) = some u') := fun j u' hu => by
        rw [Go.WideShapes.add_plain, (Box.new w2 #[.int .i64 0, .string u.key, .int .i64 u.v.kind, .int .i64 u.v.int, .string u.v.text, .slice u.v.p u.v.n u.v.c, .slice u.p u.n u.c] 35).cell]
        rw [show 0 + j = j by omega]
        simpa [elItem, IT.cells] using hu
      clear hO2 hu2 hal2 hin2 hb2 ha
      clear HC c0 c1 c2 c3 c4 c5
      go_upto_region 8 with fail
      rw [← HW2.out]
      go_wp2_with (at_builtin; refine wpList_app rfl (.tmp 23) (.tmp 26) 22 35 i0 _ 7 104 HKd.out rfl w.heap.size u5 k _ rfl (H2.out.1.own.alloc _) ⟨w2.heap.size, 0, none⟩ 1 1 (elItem.cells ⟨0, u⟩) rfl rfl HNw.out (elItem.one ⟨0, u⟩) (by omega) (by omega) (by simp; omega) ?_)
      intro v3 w3 ho3 hg3 hn3
      obtain ⟨hO2, hu2, hal2, hbel2⟩ := H2.out
      have hi2 : elItem.In w2 (fun b => w.heap.size ≤ b ∧ u5.ownBlock ≠ some b) ⟨0, u⟩ := ⟨hu2, (by show (-9223372036854775808 : Int) ≤ 0; omega), (by show (0 : Int) ≤ 9223372036854775807; omega)⟩
      have HO3 := hid ((hO2.keep HAl.out.size (fun k _ hl => HAl.out.block k hl)).push (IT.In.below hi2 HAl.out) ho3 hg3 hn3)
      have HB3 : Hid (Below w.heap.size w w3) := (hbel2.trans (HAl.out.mono hsz)).grown hg3 (by simp; omega) (fun k hk => (hO2.own.lt k hk).1)
      have HA3 : Hid (∀ q, q < k + 1 → (if q < k then g q else (⟨0, u⟩ : IT)).mark = 0 ∧ RT.Alike (l.item q) (if q < k then g q else (⟨0, u⟩ : IT)).r) := by
        intro q hq
        by_cases hqk : q < k
        · rw [if_pos hqk]; exact HA.out q hqk
        · rw [if_neg hqk]
          obtain rfl : q = k := by omega
          exact ⟨rfl, hal2⟩
      clear ho3 hg3 hn3 hO2 hu2 hal2 hbel2 H2 HAl HNw hi2
      go_wp2
      go_roundw
      case rel => exact ⟨k + 1, _, by omega, by go_num, HO3.out, HA3.out, HB3.out⟩
      case measure => simp [intOf]; omega
    · obtain rfl : k = l.n := by omega
      have hlt' : ¬ (l.n : Int) < (l.n : Int) := by omega
      have hRr := HR.out.below HB.out
      have c2 := hRr.c2
      have bl' := hRr.box.lt
      obtain ⟨p5, c5, hv⟩ := ownsRow_slice HO.out.own
      have hsr := HB.out.size
      have HRr := hid hRr
      clear hRr
      cases hp : R.l.p with
      | none =>
        have hnil := HR.out.in_.nil hp
        rw [hp, hnil.1, hnil.2] at c2
        have hle : l.n ≤ c5 := by
          obtain ⟨p6, c6, hv6, hin6⟩ := HO.out.in_ (by omega)
          rw [hv] at hv6
          injection hv6 with _ _ e3
          rw [e3]
          exact hin6.nc
        have HLe := hid hle
        have g2 := HRr.out.box.frozen 2
        have HE := hid hnil
        have HV := hid hv
        rw [hv]
        clear hv hnil
        go_wp2_with (at_builtin; refine wpList_app0 rfl (.tmp 28) (.tmp 32) rfl p5 l.n c5 rfl rfl HLe.out ?_)
        go_wp2
        refine bodyPost_ret (v := .int .i64 0) (by simp [results, Try.results52, go_sem]) rfl ⟨rfl, ?_⟩
        refine HF.out wr wr HB.out (.slice p5 l.n c5) g (HV.out ▸ HO.out) HA.out p5 l.n c5 (by rw [HE.out.1]; rfl) ?_ ⟨rfl, rfl, rfl, Nat.le_refl _, fun _ _ _ => rfl⟩ (.inl rfl)
        have e0 : R.l.toL = [] := List.eq_nil_of_length_eq_zero (by rw [LT.toL_len, HE.out.1])
        rw [e0]
        have h9 := HO.out.own
        rw [HV.out] at h9
        rw [List.flatMap_nil, List.append_nil]
        exact h9
      | some ad =>
        obtain ⟨gb, o⟩ : ∃ gb, (Value.slice R.l.p R.l.n R.l.c).ownBlock = some gb := by
          obtain ⟨_, ⟨hv2, h0⟩ | ⟨g2, cap, cur, hv2, _⟩⟩ := id HR.out.own
          · injection hv2 with e1; rw [hp] at e1; cases e1
          · exact ⟨g2, by rw [hv2]; rfl⟩
        have had : ad = ⟨gb, 0, none⟩ := by
          obtain ⟨_, ⟨hv2, h0⟩ | ⟨g2, cap, cur, hv2, _⟩⟩ := id HR.out.own
          · injection hv2 with e1; rw [hp] at e1; cases e1
          · injection hv2 with e1
            rw [e1] at o
            have o' : some g2 = some gb := o
            injection o' with o'
            rw [hp] at e1
            injection e1 with e1
            rw [e1, o']
        subst had
        rw [hp] at c2
        have hce := @World.ownsRow.cells _ _ _ _ _ _ _ HRr.out.own
        have HCe : Hid (∀ j u, (R.l.toL.flatMap IT.cells)[j]? = some u → wr.cell? ((⟨gb, 0, none⟩ : Addr).add j) = some u) := fun j u hu => hce o j u (by rw [rowsE_toL]; exact hu)
        have HV := hid hv
        rw [hv]
        have HOw : Hid (wr.ownsRow w.heap.size 35 7 (.slice p5 l.n c5) l.n ((List.range l.n).flatMap fun j => elItem.cells (g j))) := by rw [← hv]; exact HO.out.own
        clear hce hv o
        go_wp2_with (at_builtin; refine wpList_app rfl (.tmp 28) (.tmp 32) 22 35 i0 _ 7 104 HKd.out rfl w.heap.size (.slice p5 l.n c5) l.n _ rfl HOw.out ⟨gb, 0, none⟩ R.l.n R.l.c (R.l.toL.flatMap IT.cells) rfl (by rw [flat_len IT.cells 7 (fun _ => rfl), LT.toL_len]) HCe.out (fun u hu => by
          obtain ⟨x, _, hx⟩ := List.mem_flatMap.1 hu
          exact elItem.one x u hx) (by omega) (by omega) HB.out.size ?_)
        intro v6 w6 ho6 hg6 hn6
        obtain ⟨p6, c6, rfl⟩ := ownsRow_slice ho6
        have hb6 : Box w6 b _ _ := HRr.out.box.kept (hg6.block b HRr.out.box.lt (fun e => by have := (HOw.out.lt b e.symm).1; omega))
        have y2 : w6.cell? ⟨b, 2, none⟩ = some (.slice R.l.p R.l.n R.l.c) := by rw [hb6.cell]; rfl
        have g2 := hb6.frozen 2
        have bl6 := hb6.lt
        have HFi := hid (HF.out wr w6 HB.out (.slice p5 l.n c5) g (HV.out ▸ HO.out) HA.out p6 (l.n + R.l.n) c6 rfl ho6 hg6 hn6)
        clear ho6 hg6 hn6 hb6
        go_wp2
        refine bodyPost_ret (v := .int .i64 0) (by simp [results, Try.results52, go_sem]) rfl ⟨rfl, HFi.out⟩
end Go.Proofs.Ytpldokahoamdpaa
