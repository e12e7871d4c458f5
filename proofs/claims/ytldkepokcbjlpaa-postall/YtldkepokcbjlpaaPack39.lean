import Derived.Test.YtldkepokcbjlpaaPack38
namespace Go.Proofs.Ytldkepokcbjlpaa
open Go.RowKit Go.Conc
set_option maxRecDepth 60000
theorem kindPts : ∃ i, Kind 46 39 i (.agg #[.int .i64 0, .slice none 0 0, .slice none 0 0, .slice none 0 0]) 4 80 := kindPt
/-- what Hand leaves of the reference -/
structure RHdQ (task : Int) (x : PtT) (w : World) (b : Nat) (R : Rp) (n : Nat) (pt : LT PtT) (tk : LT Int) (w' : World) (u : PtT) (pp : Option Addr) (cp : Nat) (tp : Option Addr) (ct : Nat) : Prop where
  al : PtAlk x u
  inv : RpI w' b (R.put n ⟨R.first + (n : Int), 1, pp, pt.n + 1, cp, tp, tk.n + 1, ct, (R.sh.item n).pk⟩)
  ru : RU w' b (R.put n ⟨R.first + (n : Int), 1, pp, pt.n + 1, cp, tp, tk.n + 1, ct, (R.sh.item n).pk⟩) n (pt.push pp cp u) (tk.push tp ct task)
  but : But (fun k => R.C b k ∨ (Value.slice pt.p pt.n pt.c).ownBlock = some k ∨ (Value.slice tk.p tk.n tk.c).ownBlock = some k) w w'
  pb : ∀ k, (Value.slice pp (pt.n + 1) cp).ownBlock = some k → (Value.slice pt.p pt.n pt.c).ownBlock = some k ∨ w.heap.size ≤ k
  tb : ∀ k, (Value.slice tp (tk.n + 1) ct).ownBlock = some k → (Value.slice tk.p tk.n tk.c).ownBlock = some k ∨ w.heap.size ≤ k
  pi : PtIn w' (fun k => w.heap.size ≤ k ∧ (Value.slice pp (pt.n + 1) cp).ownBlock ≠ some k ∧ (Value.slice tp (tk.n + 1) ct).ownBlock ≠ some k) u
theorem RpI.put5 {w : World} {b g i : Nat} {R : Rp} (x : Rs) (h : RpI w b R) (hp : R.sh.p = some ⟨g, 0, none⟩) (hi : i < R.sh.n) : RSet w b R (((((w.setCell ⟨g, i * 5, none⟩ (.int .i64 x.id)).setCell ⟨g, i * 5 + 1, none⟩ (.int .i64 x.st)).setCell ⟨g, i * 5 + 2, none⟩ (.slice x.pp x.pn x.pc)).setCell ⟨g, i * 5 + 3, none⟩ (.slice x.tp x.tn x.tc)).setCell ⟨g, i * 5 + 4, none⟩ (.int .i64 x.pk)) (R.put i x) := by
  have k0 := h.put (r := 0) (u := .int .i64 x.id) (x := { R.sh.item i with id := x.id }) hp hi (by omega) rfl
  have k1 := k0.inv.put (r := 1) (u := .int .i64 x.st) (i := i) (x := { R.sh.item i with id := x.id, st := x.st }) hp hi (by omega) (by
    show _ = (elSh.cells (if i = i then _ else R.sh.item i)).set 1 _
    rw [if_pos rfl]; rfl)
  rw [Rp.put_put] at k1
  have k2 := k1.inv.put (r := 2) (u := .slice x.pp x.pn x.pc) (i := i) (x := { R.sh.item i with id := x.id, st := x.st, pp := x.pp, pn := x.pn, pc := x.pc }) hp hi (by omega) (by
    show _ = (elSh.cells (if i = i then _ else R.sh.item i)).set 2 _
    rw [if_pos rfl]; rfl)
  rw [Rp.put_put] at k2
  have k3 := k2.inv.put (r := 3) (u := .slice x.tp x.tn x.tc) (i := i) (x := { R.sh.item i with id := x.id, st := x.st, pp := x.pp, pn := x.pn, pc := x.pc, tp := x.tp, tn := x.tn, tc := x.tc }) hp hi (by omega) (by
    show _ = (elSh.cells (if i = i then _ else R.sh.item i)).set 3 _
    rw [if_pos rfl]; rfl)
  rw [Rp.put_put] at k3
  have k4 := k3.inv.put (r := 4) (u := .int .i64 x.pk) (i := i) (x := x) hp hi (by omega) (by
    show _ = (elSh.cells (if i = i then _ else R.sh.item i)).set 4 _
    rw [if_pos rfl]; rfl)
  rw [Rp.put_put] at k4
  exact k0.trans (k1.trans (k2.trans (k3.trans k4)))
theorem rowsP_push (l : LT PtT) (p : Option Addr) (c : Nat) (u : PtT) : rowsP (l.push p c u) = rowsP l ++ elPt.cells u := by
  unfold rowsP LT.push
  simp only
  rw [List.range_succ, List.flatMap_append]
  congr 1
  · rw [List.flatMap_def, List.flatMap_def]
    congr 1
    apply List.map_congr_left
    intro j hj
    rw [if_pos (List.mem_range.1 hj)]
  · simp
theorem rowsI_push (l : LT Int) (p : Option Addr) (c : Nat) (u : Int) : rowsI (l.push p c u) = rowsI l ++ elInt.cells u := by
  unfold rowsI LT.push
  simp only
  rw [List.range_succ, List.flatMap_append]
  congr 1
  · rw [List.flatMap_def, List.flatMap_def]
    congr 1
    apply List.map_congr_left
    intro j hj
    rw [if_pos (List.mem_range.1 hj)]
  · simp
set_option maxHeartbeats 32000000 in
theorem rhand_ok (task : Int) (x : PtT) (S : Nat → Prop) (w : World) (b : Nat) (R : Rp) (hI : RpI w b R) (n : Nat) (pt : LT PtT) (tk : LT Int) (hU : RU w b R n pt tk) (h0 : ¬ task < 0) (h1 : ¬ R.tasks ≤ task) (hno : ∀ i, i < tk.n → tk.item i ≠ task) (hm : pt.n < 12) (hxi : PtIn w S x) (hxs : PtSz x) : Calls Try.prog 43 #[.pointer (some ⟨b, 0, none⟩), .int .i64 (R.first + (n : Int)), .int .i64 task, .agg #[.int .i64 x.num, .slice x.cl.p x.cl.n x.cl.c, .slice x.lg.p x.lg.n x.lg.c, .slice x.pd.p x.pd.n x.pd.c]] w fun e w' => e = .returned (.int .i64 0) ∧ ∃ u pp cp tp ct, RHdQ task x w b R n pt tk w' u pp cp tp ct := by
  have HNo := hid hno
  have HXi := hid (And.intro hxi hxs)
  clear hno hxi hxs
  obtain ⟨W, hW⟩ : ∃ V, V = w.alloc (.cells #[.int .i64 x.num, .slice x.cl.p x.cl.n x.cl.c, .slice x.lg.p x.lg.n x.lg.c, .slice x.pd.p x.pd.n x.pd.c] 39) := ⟨_, rfl⟩
  have hB : Below w.heap.size w W := by rw [hW]; exact (Below.refl _ _).alloc (Nat.le_refl _) _
  have hX : Box W w.heap.size #[.int .i64 x.num, .slice x.cl.p x.cl.n x.cl.c, .slice x.lg.p x.lg.n x.lg.c, .slice x.pd.p x.pd.n x.pd.c] 39 := by rw [hW]; exact Box.new _ _ _
  have hIW := hI.below hB
  have HI := hid hI
  have HIW := hid hIW
  have HB := hid hB
  have HX := hid hX
  have HW := hid hW
  have HN := hid (rnow_any W b R hIW)
  have c0 := hIW.box.cell 0
  have c3 := hIW.box.cell 3
  have bl := hIW.box.lt
  have hn1 := hI.n1
  have hf0 := hI.f0
  have hf1 := hI.f1
  have ht0 := hI.t0
  have ht1 := hI.t1
  simp [Rp.arr] at c0 c3
  have HE := hid hU.now
  obtain ⟨g, hp, hgl, hob, hfz, hat⟩ := hIW.at_ (by have := hU.hn; omega)
  have hin : n < R.sh.n := by have := hU.hn; omega
  have r0 : W.cell? ⟨g, n * 5, none⟩ = some (.int .i64 (R.sh.item n).id) := hat n hin 0 _ rfl
  have r1 := hat n hin 1 _ rfl
  have r2 := hat n hin 2 _ rfl
  have r3 := hat n hin 3 _ rfl
  have r4 := hat n hin 4 _ rfl
  have hst := hU.st
  rw [hst.2.1] at r0
  rw [hst.1] at r1
  rw [hst.2.2.1, hst.2.2.2.1, hst.2.2.2.2.1] at r3
  rw [hst.2.2.2.2.2.1, hst.2.2.2.2.2.2.1, hst.2.2.2.2.2.2.2] at r2
  have hin' : (n : Int) < (R.sh.n : Int) := by omega
  have hi0 : ¬ (n : Int) < 0 := by omega
  have HGp := hid hp
  have HOb := hid hob
  rw [hp] at c3
  have HTl : Hid (LT.In elInt w (fun _ => True) tk) := own_in' (E := elInt) (l := tk) hU.town (fun _ _ => trivial) (fun j hj => by have := hU.tb j hj; exact (by omega : -9223372036854775808 ≤ tk.item j ∧ tk.item j ≤ 9223372036854775807)) (by have := hU.m12; have := hU.m; omega)
  have hm12 : tk.n ≤ 12 := by have := hU.m12; have := hU.m; omega
  have HU := hid hU
  obtain ⟨V, hV⟩ : ∃ V, V = W.alloc (.cells #[.int .i64 (R.first + (n : Int)), .int .i64 1, .slice pt.p pt.n pt.c, .slice tk.p tk.n tk.c, .int .i64 (R.sh.item n).pk] 125) := ⟨_, rfl⟩
  have hbV : Below W.heap.size W V := by rw [hV]; exact (Below.refl _ _).alloc (Nat.le_refl _) _
  have hS : Box V W.heap.size #[.int .i64 (R.first + (n : Int)), .int .i64 1, .slice pt.p pt.n pt.c, .slice tk.p tk.n tk.c, .int .i64 (R.sh.item n).pk] 125 := by rw [hV]; exact Box.new _ _ _
  have hsW : W.heap.size = w.heap.size + 1 := by rw [hW]; simp
  have HV := hid hV
  have HS := hid hS
  have HBV := hid hbV
  have HsW := hid hsW
  have s3 := hS.cell 3
  have sl := hS.lt
  simp at s3
  have hbwV := hB.trans (hbV.mono hB.size)
  have HBw := hid hbwV
  clear hI hB hX hIW hW hat hfz hob hp hst hU hV hbV hS hsW hbwV
  go_enter Try.func43, Try.ntmps43
  go_upto_region 1 with fail
  rw [← HW.out]
  go_wp2_with fail
  refine HN.out.mono ?_
  rintro e w1 hw1
  obtain ⟨rfl, hw1⟩ := hw1
  subst hw1
  rw [HE.out]
  go_upto_region 7 with fail
  rw [← HV.out]
  clear c0 c3 r0 r1 r2 r3 r4 HN
  obtain ⟨ip, Kp⟩ := kindPts
  have HKp := hid Kp
  obtain ⟨ii, Ki⟩ := kindIc
  have HKi := hid Ki
  clear Kp Ki
  have HXV := hid (HX.out.below HBV.out)
  go_wp2_with fail
  go_loopw [11] (fun y wr => ∃ k : Nat, k ≤ tk.n ∧ y = .int .i64 (k : Int) ∧ wr = V) (fun y _ => tk.n - (intOf y).toNat)
  case atStart => exact ⟨0, Nat.zero_le _, rfl, rfl⟩
  case round =>
    obtain ⟨k, hk, rfl, hwr⟩ := hrel
    subst hwr
    by_cases hlt : k < tk.n
    · have hlt' : (k : Int) < (tk.n : Int) := by omega
      obtain ⟨tb, o, htp, _, htl, hat⟩ := HTl.out.at_ (by omega)
      have t0 := (World.cell?_of_block (a := ⟨tb, o + k, none⟩) (HBw.out.block tb htl)).trans (show w.cell? ⟨tb, o + k, none⟩ = some (.int .i64 (tk.item k)) by have := hat k (by omega) 0 _ rfl; simpa [elInt] using this)
      rw [htp] at s3
      have hkt' : (tk.item k == task) = false := by simp [HNo.out k hlt]
      clear hat htp
      go_wp2
      go_roundw
      case rel => exact ⟨k + 1, by omega, by go_num, by simp⟩
      case measure => simp [intOf]; omega
    · obtain rfl : k = tk.n := by omega
      have hlt' : ¬ (tk.n : Int) < (tk.n : Int) := by omega
      have x0 := HXV.out.cell 0
      have x1 := HXV.out.cell 1
      have x2 := HXV.out.cell 2
      have x3 := HXV.out.cell 3
      have xl := HXV.out.lt
      simp at x0 x1 x2 x3
      have HPt := hid (rpart x wr (fun k => S k ∧ k < w.heap.size) ((HXi.out.1.mono fun k hk hl => ⟨hk, hl⟩).kept HBw.out.size (fun k hk _ => HBw.out.block k hk.2)) HXi.out.2)
      go_wp2_with fail
      refine HPt.out.mono ?_
      rintro e w2 ⟨u, rfl, hal, hui, hb2⟩
      obtain ⟨A2, hA2⟩ : ∃ Y, Y = w2.alloc (.cells #[.int .i64 u.num, .slice u.cl.p u.cl.n u.cl.c, .slice u.lg.p u.lg.n u.lg.c, .slice u.pd.p u.pd.n u.pd.c] 39) := ⟨_, rfl⟩
      have hbA : Below w2.heap.size w2 A2 := by rw [hA2]; exact (Below.refl _ _).alloc (Nat.le_refl _) _
      have hxb : Box A2 w2.heap.size #[.int .i64 u.num, .slice u.cl.p u.cl.n u.cl.c, .slice u.lg.p u.lg.n u.lg.c, .slice u.pd.p u.pd.n u.pd.c] 39 := by rw [hA2]; exact Box.new _ _ _
      have hb2A : Below wr.heap.size wr A2 := hb2.trans (hbA.mono hb2.size)
      have hbwA : Below w.heap.size w A2 := HBw.out.trans (hb2A.mono HBw.out.size)
      have hSA := HS.out.below hb2A
      have q0 := hxb.cell 0
      have q1 := hxb.cell 1
      have q2 := hxb.cell 2
      have q3 := hxb.cell 3
      have ql := hxb.lt
      have s2 := hSA.cell 2
      have sA := hSA.lt
      simp at q0 q1 q2 q3 s2
      have HA2 := hid hA2
      have HSA := hid hSA
      have HbwA := hid hbwA
      have HUi := hid (And.intro hal (hui.kept hbA.size (fun k _ hl => hbA.block k hl)))
      have hsw2 : wr.heap.size ≤ w2.heap.size := hb2.size
      have hswr : w1.heap.size < wr.heap.size := HS.out.lt
      have hA2s : w2.heap.size < A2.heap.size := ql
      have hB3 : Below A2.heap.size A2 (A2.alloc (.cells #[.int .i64 u.num, .slice u.cl.p u.cl.n u.cl.c, .slice u.lg.p u.lg.n u.lg.c, .slice u.pd.p u.pd.n u.pd.c] 39)) := (Below.refl _ _).alloc (Nat.le_refl _) _
      have HB3 := hid hB3
      have hpA := ownsRow_keep HU.out.pown (fun k _ hl => hbwA.block k hl)
      have HpA := hid hpA
      have HNw : Hid (∀ j u', (elPt.cells u)[j]? = some u' → (A2.alloc (.cells #[.int .i64 u.num, .slice u.cl.p u.cl.n u.cl.c, .slice u.lg.p u.lg.n u.lg.c, .slice u.pd.p u.pd.n u.pd.c] 39)).cell? ((⟨A2.heap.size, 0, none⟩ : Addr).add j) = some u') := fun j u' hu => by
        rw [Go.WideShapes.add_plain, (Box.new A2 #[.int .i64 u.num, .slice u.cl.p u.cl.n u.cl.c, .slice u.lg.p u.lg.n u.lg.c, .slice u.pd.p u.pd.n u.pd.c] 39).cell]
        rw [show 0 + j = j by omega]
        simpa [elPt, PtT.cells] using hu
      have hpl : ∀ k, (Value.slice pt.p pt.n pt.c).ownBlock = some k → k < w.heap.size := fun k hk => (HU.out.pown.lt k hk).2
      have htl : ∀ k, (Value.slice tk.p tk.n tk.c).ownBlock = some k → k < w.heap.size := fun k hk => (HU.out.town.lt k hk).2
      have HPl := hid (And.intro hpl htl)
      clear hal hui hb2 hA2 hbA hxb hb2A hbwA hSA hB3 hpA HPt x0 x1 x2 x3 hpl htl s3 sl xl
      go_upto_region 13 with fail
      rw [← HA2.out]
      go_wp2_with (at_builtin; refine wpList_app rfl (.tmp 63) (.tmp 65) 46 39 ip _ 4 80 HKp.out rfl 0 (.slice pt.p pt.n pt.c) pt.n (rowsP pt) rfl (HpA.out.alloc _) ⟨A2.heap.size, 0, none⟩ 1 1 (elPt.cells u) rfl rfl HNw.out (elPt.one u) (by omega) (by omega) (Nat.zero_le _) ?_)
      intro v4 w4 ho4 hg4 hn4
      obtain ⟨pp, cp, rfl⟩ := ownsRow_slice ho4
      have hS3 := HSA.out.below HB3.out
      have hS4 : Box w4 w1.heap.size #[.int .i64 (R.first + (n : Int)), .int .i64 1, .slice pt.p pt.n pt.c, .slice tk.p tk.n tk.c, .int .i64 (R.sh.item n).pk] 125 := hS3.kept (hg4.block _ hS3.lt (fun e => by have := HPl.out.1 _ e.symm; have := HsW.out; omega))
      have y2 := hS4.cell 2
      have y3 := hS4.cell 3
      have f2 := hS4.frozen 2
      have yl := hS4.lt
      simp at y2 y3
      have HG4 := hid (And.intro ho4 (And.intro hg4 hn4))
      have HS4 := hid hS4
      clear ho4 hg4 hn4 hS3 hS4 HNw q0 q1 q2 q3 s2 ql sA
      go_upto_region 14 with fail
      obtain ⟨w5, hw5⟩ : ∃ Y, Y = w4.setCell ⟨w1.heap.size, 2, none⟩ (.slice pp (pt.n + 1) cp) := ⟨_, rfl⟩
      have hb5 : But (fun k => k = w1.heap.size) w4 w5 := by rw [hw5]; exact (But.one w4 _).setAt 2 _
      have hS5 : Box w5 w1.heap.size #[.int .i64 (R.first + (n : Int)), .int .i64 1, .slice pp (pt.n + 1) cp, .slice tk.p tk.n tk.c, .int .i64 (R.sh.item n).pk] 125 := by
        have h := HS4.out.set 2 (.slice pp (pt.n + 1) cp)
        rw [hw5]
        simpa using h
      rw [← hw5]
      clear hw5
      have hswW : w.heap.size < w1.heap.size + 1 := by have := HsW.out; omega
      have hg4 := HG4.out.2.1
      have hsz4 : A2.heap.size + 1 ≤ w4.heap.size := by have := hg4.size; simpa using this
      have hk5 : ∀ k, k < A2.heap.size → (Value.slice pt.p pt.n pt.c).ownBlock ≠ some k → k ≠ w1.heap.size → w5.heap[k]? = A2.heap[k]? := fun k hk h1 h2 =>
        (hb5.block k (by omega) h2).trans ((hg4.block k (by simp; omega) (fun e => h1 e.symm)).trans (HB3.out.block k hk))
      have hAw := HbwA.out.size
      have hs1w : w1.heap.size = w.heap.size + 1 := HsW.out
      have htA := ownsRow_keep HU.out.town (fun k _ hl => HbwA.out.block k hl)
      have ht5 := ownsRow_keep htA (fun k hk hl => hk5 k hl (fun e => (HU.out.pne k e).2 hk) (by have := HPl.out.2 k hk; omega))
      have HT5 := hid ht5
      have z3 := hS5.cell 3
      have zl := hS5.lt
      simp at z3
      have hB6 : Below w5.heap.size w5 (w5.alloc (.cells #[.int .i64 task] 3)) := (Below.refl _ _).alloc (Nat.le_refl _) _
      have HB6 := hid hB6
      have HNw2 : Hid (∀ j u', ([.int .i64 task] : List Value)[j]? = some u' → (w5.alloc (.cells #[.int .i64 task] 3)).cell? ((⟨w5.heap.size, 0, none⟩ : Addr).add j) = some u') := fun j u' hu => by
        rw [Go.WideShapes.add_plain, (Box.new w5 #[.int .i64 task] 3).cell]
        rw [show 0 + j = j by omega]
        simpa using hu
      have HK5 := hid (And.intro hb5 (And.intro hk5 (And.intro hsz4 (And.intro hAw hs1w))))
      have HS5 := hid hS5
      clear hb5 hS5 hg4 hk5 htA ht5 hB6 y2 y3 f2 yl hs1w hAw hswW
      go_wp2_with (at_builtin; refine wpList_app rfl (.tmp 69) (.tmp 71) 32 3 ii _ 1 8 HKi.out rfl 0 (.slice tk.p tk.n tk.c) tk.n (rowsI tk) rfl (HT5.out.alloc _) ⟨w5.heap.size, 0, none⟩ 1 1 [.int .i64 task] rfl rfl HNw2.out (fun u hu => by simp at hu; rw [hu]; rfl) (by omega) (by omega) (Nat.zero_le _) ?_)
      intro v7 w7 ho7 hg7 hn7
      obtain ⟨tp, ct, rfl⟩ := ownsRow_slice ho7
      have hS6 := HS5.out.below HB6.out
      have hS7 : Box w7 w1.heap.size #[.int .i64 (R.first + (n : Int)), .int .i64 1, .slice pp (pt.n + 1) cp, .slice tk.p tk.n tk.c, .int .i64 (R.sh.item n).pk] 125 := hS6.kept (hg7.block _ hS6.lt (fun e => by have := HPl.out.2 _ e.symm; have := HsW.out; omega))
      have y3 := hS7.cell 3
      have f3 := hS7.frozen 3
      have yl := hS7.lt
      simp at y3
      obtain ⟨w8, hw8⟩ : ∃ Y, Y = w7.setCell ⟨w1.heap.size, 3, none⟩ (.slice tp (tk.n + 1) ct) := ⟨_, rfl⟩
      have hb8 : But (fun k => k = w1.heap.size) w7 w8 := by rw [hw8]; exact (But.one w7 _).setAt 3 _
      have hS8 : Box w8 w1.heap.size #[.int .i64 (R.first + (n : Int)), .int .i64 1, .slice pp (pt.n + 1) cp, .slice tp (tk.n + 1) ct, .int .i64 (R.sh.item n).pk] 125 := by
        have h := hS7.set 3 (.slice tp (tk.n + 1) ct)
        rw [hw8]
        simpa using h
      have HW8 := hid hw8
      have hk8 : ∀ k, k < A2.heap.size → (Value.slice pt.p pt.n pt.c).ownBlock ≠ some k → (Value.slice tk.p tk.n tk.c).ownBlock ≠ some k → k ≠ w1.heap.size → w8.heap[k]? = A2.heap[k]? := fun k hk h1 h2 h3 => by
        have h5 := HK5.out.1.size
        have h6 : w5.heap.size + 1 ≤ w7.heap.size := by have := hg7.size; simpa using this
        have h9 := HK5.out.2.2.1
        exact (hb8.block k (by omega) h3).trans ((hg7.block k (by simp; omega) (fun e => h2 e.symm)).trans ((HB6.out.block k (by omega)).trans (HK5.out.2.1 k hk h1 h3)))
      have hI8 : RpI w8 b R := HI.out.kept fun k hk hl => (hk8 k (Nat.lt_of_lt_of_le hl HK5.out.2.2.2.1) (fun e => (HU.out.pne k e).1 hk) (fun e => HU.out.tne k e hk) (by have := HsW.out; omega)).trans (HbwA.out.block k hl)
      obtain ⟨g', hp', hgl', hob', hfz', hat'⟩ := hI8.at_ (by have := HU.out.hn; omega)
      have hgg : g' = g := by rw [HGp.out] at hp'; simpa using hp'.symm
      subst hgg
      have c38 := hI8.box.cell 3
      have bl8 := hI8.box.lt
      simp [Rp.arr] at c38
      rw [hp'] at c38
      have d0 : w8.cell? ⟨g', n * 5, none⟩ = some (.int .i64 (R.sh.item n).id) := hat' n hin 0 _ rfl
      have d1 := hat' n hin 1 _ rfl
      have d2 := hat' n hin 2 _ rfl
      have d3 := hat' n hin 3 _ rfl
      have d4 := hat' n hin 4 _ rfl
      have e0 := hfz' (n * 5)
      have e1 := hfz' (n * 5 + 1)
      have e2 := hfz' (n * 5 + 2)
      have e3 := hfz' (n * 5 + 3)
      have e4 := hfz' (n * 5 + 4)
      have s0 := hS8.cell 0
      have s1 := hS8.cell 1
      have s2 := hS8.cell 2
      have s3 := hS8.cell 3
      have s4 := hS8.cell 4
      have sl8 := hS8.lt
      simp at s0 s1 s2 s3 s4
      have HG7 := hid (And.intro ho7 (And.intro hg7 (And.intro hn7 (And.intro hb8 (And.intro hk8 hI8)))))
      have HOb8 := hid hob'
      have hgne : w1.heap.size ≠ g' := fun e => by
        have h1 := (HI.out.own.lt g' hob').2
        have := HsW.out; omega
      have hgne' : g' ≠ w1.heap.size := fun e => hgne e.symm
      clear ho7 hg7 hn7 hb8 hk8 hI8 hat' hfz' hS6 hS7 hS8 hw8 HNw2 hob' z3 zl
      go_upto_region 15 with fail
      rw [← HW8.out]
      clear y3 f3 yl
      refine wp_region_calmE 30 (fun wx => Below w8.heap.size w8 wx) [(0, true), (1, true), (2, true), (3, false), (4, true), (5, false), (6, true)] (.one 7 false [] .done) (by kernel_rfl) (by kernel_rfl) (Below.refl _ _).drew ?_
      refine wpPre_e rfl rfl (fun K1 hK1 => ?_)
      apply Exists.intro
      refine And.intro (fun wx hx => ?_) ?_
      · go_simp
        try rfl
      go_simp
      refine hK1 _ ?_
      clear hK1 K1
      refine wpPre_e rfl rfl (fun K1 hK1 => ?_)
      apply Exists.intro
      refine And.intro (fun wx hx => ?_) ?_
      · go_simp
        try rfl
      go_simp
      refine hK1 _ ?_
      clear hK1 K1
      refine wpPre_e rfl rfl (fun K1 hK1 => ?_)
      apply Exists.intro
      refine And.intro (fun wx hx => ?_) ?_
      · go_simp
        try rfl
      go_simp
      refine hK1 _ ?_
      clear hK1 K1
      refine wpPre_e rfl rfl (fun K1 hK1 => ?_)
      apply Exists.intro
      refine And.intro (fun wx hx => ?_) ?_
      · have e0 := below_fact hx rfl c38
        have e1 := below_fact hx rfl s0
        have e2 := below_fact hx rfl s1
        have e3 := below_fact hx rfl s2
        have e4 := below_fact hx rfl s3
        have e5 := below_fact hx rfl s4
        go_simp
        try rfl
      go_simp
      refine hK1 _ ?_
      clear hK1 K1
      refine wpPre_e rfl rfl (fun K1 hK1 => ?_)
      apply Exists.intro
      refine And.intro (fun wx hx => ?_) ?_
      · go_simp
        try rfl
      go_simp
      refine hK1 _ ?_
      clear hK1 K1
      refine wpPre_e rfl rfl (fun K1 hK1 => ?_)
      apply Exists.intro
      refine And.intro (fun wx hx => ?_) ?_
      · have e0 := below_fact hx rfl c38
        have e1 := below_fact hx rfl s0
        have e2 := below_fact hx rfl s1
        have e3 := below_fact hx rfl s2
        have e4 := below_fact hx rfl s3
        have e5 := below_fact hx rfl s4
        go_simp
        try rfl
      go_simp
      refine hK1 _ ?_
      clear hK1 K1
      refine wpPre_e rfl rfl (fun K1 hK1 => ?_)
      apply Exists.intro
      refine And.intro (fun wx hx => ?_) ?_
      · go_simp
        try rfl
      go_simp
      refine hK1 _ ?_
      clear hK1 K1
      refine wpPre_nil ?_
      refine wpTr_e rfl (fun K1 hK1 => ?_)
      go_simp
      refine hK1 _ _ (fun h => by cases h) ?_
      clear hK1 K1
      refine wpPre_nil ?_
      refine wpTr_done ?_
      go_wp2
      refine bodyPost_ret (v := .int .i64 0) (by simp [results, Try.results43, go_sem]) rfl ?_
      obtain ⟨w9, hw9⟩ : ∃ Y, Y = ((((((w8.setCell ⟨g', n * 5, none⟩ (.int .i64 (R.first + (n : Int)))).setCell ⟨g', n * 5 + 1, none⟩ (.int .i64 1)).setCell ⟨g', n * 5 + 2, none⟩ (.slice pp (pt.n + 1) cp)).setCell ⟨g', n * 5 + 3, none⟩ (.slice tp (tk.n + 1) ct)).setCell ⟨g', n * 5 + 4, none⟩ (.int .i64 (R.sh.item n).pk)).drew) := ⟨_, rfl⟩
      rw [← hw9]
      obtain ⟨ho4, hg4, hn4⟩ := HG4.out
      obtain ⟨ho7, hg7, hn7, hb8, hk8, hI8⟩ := HG7.out
      have hb9 : But (fun k => k = g') w8 w9 := by
        rw [hw9]
        exact ((((((But.one w8 g').setAt _ _).setAt _ _).setAt _ _).setAt _ _).setAt _ _).trans (But.ofBelow (Below.refl _ _).drew)
      have hR9 : RSet w8 b R w9 (R.put n ⟨R.first + (n : Int), 1, pp, pt.n + 1, cp, tp, tk.n + 1, ct, (R.sh.item n).pk⟩) := by
        have h := hI8.put5 ⟨R.first + (n : Int), 1, pp, pt.n + 1, cp, tp, tk.n + 1, ct, (R.sh.item n).pk⟩ hp' hin
        have h2 := RSet.same h.inv (Below.refl _ _).drew
        rw [hw9]
        exact h.trans h2
      have hgC : R.C b g' := .inr HOb8.out
      have z1 := HsW.out
      have z2 : g' < w.heap.size := (HI.out.own.lt g' HOb8.out).2
      have z3 := HK5.out.2.2.2.1
      have z4 := HK5.out.2.2.1
      have z5 := HK5.out.1.size
      have z6 : w5.heap.size + 1 ≤ w7.heap.size := by have := hg7.size; simpa using this
      have z7 := hb8.size
      have hpq : ∀ k, (Value.slice pp (pt.n + 1) cp).ownBlock = some k → ((Value.slice pt.p pt.n pt.c).ownBlock = some k ∨ A2.heap.size + 1 ≤ k) := fun k hk => by
        rcases hn4 with e | e
        · exact .inl (by rw [← e]; exact hk)
        · have := e k hk; simp at this; exact .inr this
      have htq : ∀ k, (Value.slice tp (tk.n + 1) ct).ownBlock = some k → ((Value.slice tk.p tk.n tk.c).ownBlock = some k ∨ w5.heap.size + 1 ≤ k) := fun k hk => by
        rcases hn7 with e | e
        · exact .inl (by rw [← e]; exact hk)
        · have := e k hk; simp at this; exact .inr this
      have hpl4 : ∀ k, (Value.slice pp (pt.n + 1) cp).ownBlock = some k → k < w4.heap.size := fun k hk => (ho4.lt k hk).2
      have hpa : ∀ k, (Value.slice pp (pt.n + 1) cp).ownBlock = some k → k ≠ w1.heap.size ∧ k ≠ g' ∧ (Value.slice tk.p tk.n tk.c).ownBlock ≠ some k ∧ ¬ R.C b k := fun k hk => by
        rcases hpq k hk with e | e
        · have h1 := HPl.out.1 k e
          exact ⟨by omega, fun h => (HU.out.pne k e).1 (by rw [h]; exact hgC), (HU.out.pne k e).2, (HU.out.pne k e).1⟩
        · exact ⟨by omega, by omega, fun h => by have := HPl.out.2 k h; omega, fun h => by have := HI.out.lt h; omega⟩
      have hta : ∀ k, (Value.slice tp (tk.n + 1) ct).ownBlock = some k → k ≠ w1.heap.size ∧ k ≠ g' ∧ ¬ R.C b k ∧ (Value.slice pp (pt.n + 1) cp).ownBlock ≠ some k := fun k hk => by
        rcases htq k hk with e | e
        · have h1 := HPl.out.2 k e
          refine ⟨by omega, fun h => HU.out.tne k e (by rw [h]; exact hgC), HU.out.tne k e, fun h => (hpa k h).2.2.1 e⟩
        · exact ⟨by omega, by omega, fun h => by have := HI.out.lt h; omega, fun h => by have := hpl4 k h; omega⟩
      have hp9 : w9.ownsRow 0 39 4 (.slice pp (pt.n + 1) cp) (pt.n + 1) (rowsP pt ++ elPt.cells u) := ownsRow_keep ho4 fun k hk hl => by
        have h := hpa k hk
        have h2 := HK5.out.1.size
        exact (hb9.block k (by omega) h.2.1).trans ((hb8.block k (by omega) h.1).trans ((hg7.block k (by simp; omega) (fun e => h.2.2.1 e.symm)).trans ((HB6.out.block k (by omega)).trans (HK5.out.1.block k hl h.1))))
      have ht9 : w9.ownsRow 0 3 1 (.slice tp (tk.n + 1) ct) (tk.n + 1) (rowsI tk ++ elInt.cells task) := ownsRow_keep ho7 fun k hk hl => by
        have h := hta k hk
        exact (hb9.block k (by omega) h.2.1).trans (hb8.block k hl h.1)
      rw [← rowsP_push pt pp cp u] at hp9
      rw [← rowsI_push tk tp ct task] at ht9
      have hU9 := HU.out
      refine ⟨rfl, u, pp, cp, tp, ct, HUi.out.1, hR9.inv, ⟨hU9.hn, ?_, ?_, ?_, hp9, ht9, fun k hk => ⟨(hpa k hk).2.2.2, fun h => (hta k h).2.2.2 hk⟩, fun k hk => (hta k hk).2.2.1, ?_, fun j hj => ?_, fun i j hi hj e => ?_⟩, ⟨?_, ?_, ?_, ?_, fun k hl hn => ?_⟩, fun k hk => ?_, fun k hk => ?_, ?_⟩
      · show (if n = n then ⟨R.first + (n : Int), 1, pp, pt.n + 1, cp, tp, tk.n + 1, ct, (R.sh.item n).pk⟩ else R.sh.item n) = ⟨R.first + (n : Int), 1, pp, pt.n + 1, cp, tp, tk.n + 1, ct, (if n = n then (⟨R.first + (n : Int), 1, pp, pt.n + 1, cp, tp, tk.n + 1, ct, (R.sh.item n).pk⟩ : Rs) else R.sh.item n).pk⟩
        rw [if_pos rfl]
      · show tk.n + 1 = pt.n + 1; rw [hU9.m]
      · show pt.n + 1 ≤ 12; omega
      · show 0 ≤ (if n = n then (⟨R.first + (n : Int), 1, pp, pt.n + 1, cp, tp, tk.n + 1, ct, (R.sh.item n).pk⟩ : Rs) else R.sh.item n).pk ∧ (if n = n then (⟨R.first + (n : Int), 1, pp, pt.n + 1, cp, tp, tk.n + 1, ct, (R.sh.item n).pk⟩ : Rs) else R.sh.item n).pk ≤ ((pt.n + 1 : Nat) : Int)
        rw [if_pos rfl]
        have := hU9.pk
        show 0 ≤ (R.sh.item n).pk ∧ (R.sh.item n).pk ≤ _
        omega
      · have hj' : j < tk.n + 1 := hj
        show 0 ≤ (if j < tk.n then tk.item j else task) ∧ (if j < tk.n then tk.item j else task) < R.tasks
        by_cases hj2 : j < tk.n
        · rw [if_pos hj2]; exact hU9.tb j hj2
        · rw [if_neg hj2]; omega
      · have hi' : i < tk.n + 1 := hi
        have hj' : j < tk.n + 1 := hj
        have e' : (if i < tk.n then tk.item i else task) = (if j < tk.n then tk.item j else task) := e
        by_cases hi2 : i < tk.n
        · rw [if_pos hi2] at e'
          by_cases hj2 : j < tk.n
          · rw [if_pos hj2] at e'; exact hU9.nd i j hi2 hj2 e'
          · rw [if_neg hj2] at e'; exact absurd e' (HNo.out i hi2)
        · rw [if_neg hi2] at e'
          by_cases hj2 : j < tk.n
          · rw [if_pos hj2] at e'; exact absurd e'.symm (HNo.out j hj2)
          · omega
      · exact hb9.os.trans (hb8.os.trans (hg7.os.trans (HB6.out.os.trans (HK5.out.1.os.trans (hg4.os.trans (HB3.out.os.trans HbwA.out.os))))))
      · exact hb9.tape.trans (hb8.tape.trans (hg7.tape.trans (HB6.out.tape.trans (HK5.out.1.tape.trans (hg4.tape.trans (HB3.out.tape.trans HbwA.out.tape))))))
      · exact hb9.output.trans (hb8.output.trans (hg7.output.trans (HB6.out.output.trans (HK5.out.1.output.trans (hg4.output.trans (HB3.out.output.trans HbwA.out.output))))))
      · have := hb9.size; omega
      · exact (hb9.block k (by omega) (fun e => hn (.inl (by rw [e]; exact hgC)))).trans ((hk8 k (by omega) (fun e => hn (.inr (.inl e))) (fun e => hn (.inr (.inr e))) (by omega)).trans (HbwA.out.block k hl))
      · rcases hpq k hk with e | e
        · exact .inl e
        · exact .inr (by omega)
      · rcases htq k hk with e | e
        · exact .inl e
        · exact .inr (by omega)
      · refine ((HUi.out.2.mono (S' := fun k => wr.heap.size ≤ k ∧ k < A2.heap.size) (fun k hk hl => ⟨hk, hl⟩)).kept (by have := hb9.size; omega) (fun k hk hl => ?_)).mono (fun k hk _ => ⟨by omega, fun e => ?_, fun e => ?_⟩)
        · exact (hb9.block k (by omega) (by omega)).trans (hk8 k hk.2 (fun e => by have := HPl.out.1 k e; omega) (fun e => by have := HPl.out.2 k e; omega) (by omega))
        · rcases hpq k e with h | h
          · have := HPl.out.1 k h; omega
          · omega
        · rcases htq k e with h | h
          · have := HPl.out.2 k h; omega
          · omega
end Go.Proofs.Ytldkepokcbjlpaa

namespace Go.Proofs.Ytldkepokcbjlpaa
open Go.RowKit Go.Conc
set_option maxRecDepth 60000
def RpkN (w : World) (e : Ending) (w' : World) : Prop := e = .returned (.tuple #[.int .i64 0, .agg #[.int .i64 0, .int .u32 0, .slice none 0 0]]) ∧ Below w.heap.size w w'
set_option maxHeartbeats 8000000 in
theorem rpick_idle (w : World) (b : Nat) (R : Rp) (hI : RpI w b R) (hn : R.now = -1) : Calls Try.prog 44 #[.pointer (some ⟨b, 0, none⟩)] w fun e w' => RpkN w e w' := by
  obtain ⟨W, hW⟩ : ∃ V, V = w.alloc (.cells #[.int .i64 0, .int .u32 0, .slice none 0 0] 48) := ⟨_, rfl⟩
  have hB : Below w.heap.size w W := by rw [hW]; exact (Below.refl _ _).alloc (Nat.le_refl _) _
  have hZ : Box W w.heap.size #[.int .i64 0, .int .u32 0, .slice none 0 0] 48 := by rw [hW]; exact Box.new _ _ _
  have hIW := hI.below hB
  have HI := hid hI
  have HIW := hid hIW
  have HB := hid hB
  have HZ := hid hZ
  have HW := hid hW
  have HN := hid (rnow_any W b R hIW)
  have c0 := hIW.box.cell 0
  have c2 := hIW.box.cell 2
  have c3 := hIW.box.cell 3
  have bl := hIW.box.lt
  have z0 := hZ.cell 0
  have z1 := hZ.cell 1
  have z2 := hZ.cell 2
  have y0 := hZ.frozen 0
  have y1 := hZ.frozen 1
  have y2 := hZ.frozen 2
  have zl := hZ.lt
  have hn1 := hI.n1
  have hf0 := hI.f0
  have hf1 := hI.f1
  have ht0 := hI.t0
  have ht1 := hI.t1
  simp [Rp.arr] at c0 c2 c3
  simp at z0 z1 z2
  have HE := hid hn
  clear hI hB hZ hIW hW hn
  go_enter Try.func44, Try.ntmps44
  go_upto_region 1 with fail
  rw [← HW.out]
  go_wp2_with fail
  refine HN.out.mono ?_
  rintro e w1 hw1
  obtain ⟨rfl, hw1⟩ := hw1
  have hw1' : w1 = W := hw1
  rw [hw1', HE.out]
  clear hw1 hw1'
  clear w1
  go_upto_region 2 with fail
  refine wp_region_calmD 30 (fun wx => Below W.heap.size W wx) [(0, true), (1, true), (2, true), (3, true), (4, true), (5, true), (6, false), (7, true), (8, true), (9, true), (10, false), (11, true), (12, true), (13, true), (14, false), (15, true), (16, true), (17, true), (18, false), (19, true), (20, true), (21, true)] [] (by kernel_rfl) (by kernel_rfl) (Below.refl _ _).drew ?_
  refine wpPre_e rfl rfl (fun K1 hK1 => ?_)
  apply Exists.intro
  refine And.intro (fun wx hx => ?_) ?_
  · go_simp
    try rfl
  go_simp
  refine hK1 _ ?_
  clear hK1 K1
  refine wpPre_e rfl rfl (fun K1 hK1 => ?_)
  apply Exists.intro
  refine And.intro (fun wx hx => ?_) ?_
  · go_simp
    try rfl
  go_simp
  refine hK1 _ ?_
  clear hK1 K1
  refine wpPre_e rfl rfl (fun K1 hK1 => ?_)
  apply Exists.intro
  refine And.intro (fun wx hx => ?_) ?_
  · go_simp
    try rfl
  go_simp
  refine hK1 _ ?_
  clear hK1 K1
  refine wpPre_i rfl (fun K1 hK1 => ?_)
  rw [if_neg (by go_simp; all_goals (intro h; cases h))]
  go_simp
  refine hK1 _ ?_
  clear hK1 K1
  refine wpPre_i rfl (fun K1 hK1 => ?_)
  rw [if_neg (by go_simp; all_goals (intro h; cases h))]
  go_simp
  refine hK1 _ ?_
  clear hK1 K1
  refine wpPre_i rfl (fun K1 hK1 => ?_)
  rw [if_neg (by go_simp; all_goals (intro h; cases h))]
  go_simp
  refine hK1 _ ?_
  clear hK1 K1
  refine wpPre_i rfl (fun K1 hK1 => ?_)
  rw [if_neg (by go_simp; all_goals (intro h; cases h))]
  go_simp
  refine hK1 _ ?_
  clear hK1 K1
  refine wpPre_i rfl (fun K1 hK1 => ?_)
  rw [if_neg (by go_simp; all_goals (intro h; cases h))]
  go_simp
  refine hK1 _ ?_
  clear hK1 K1
  refine wpPre_i rfl (fun K1 hK1 => ?_)
  rw [if_neg (by go_simp; all_goals (intro h; cases h))]
  go_simp
  refine hK1 _ ?_
  clear hK1 K1
  refine wpPre_i rfl (fun K1 hK1 => ?_)
  rw [if_neg (by go_simp; all_goals (intro h; cases h))]
  go_simp
  refine hK1 _ ?_
  clear hK1 K1
  refine wpPre_i rfl (fun K1 hK1 => ?_)
  rw [if_neg (by go_simp; all_goals (intro h; cases h))]
  go_simp
  refine hK1 _ ?_
  clear hK1 K1
  refine wpPre_i rfl (fun K1 hK1 => ?_)
  rw [if_neg (by go_simp; all_goals (intro h; cases h))]
  go_simp
  refine hK1 _ ?_
  clear hK1 K1
  refine wpPre_i rfl (fun K1 hK1 => ?_)
  rw [if_neg (by go_simp; all_goals (intro h; cases h))]
  go_simp
  refine hK1 _ ?_
  clear hK1 K1
  refine wpPre_i rfl (fun K1 hK1 => ?_)
  rw [if_neg (by go_simp; all_goals (intro h; cases h))]
  go_simp
  refine hK1 _ ?_
  clear hK1 K1
  refine wpPre_i rfl (fun K1 hK1 => ?_)
  rw [if_neg (by go_simp; all_goals (intro h; cases h))]
  go_simp
  refine hK1 _ ?_
  clear hK1 K1
  refine wpPre_i rfl (fun K1 hK1 => ?_)
  rw [if_neg (by go_simp; all_goals (intro h; cases h))]
  go_simp
  refine hK1 _ ?_
  clear hK1 K1
  refine wpPre_i rfl (fun K1 hK1 => ?_)
  rw [if_neg (by go_simp; all_goals (intro h; cases h))]
  go_simp
  refine hK1 _ ?_
  clear hK1 K1
  refine wpPre_i rfl (fun K1 hK1 => ?_)
  rw [if_neg (by go_simp; all_goals (intro h; cases h))]
  go_simp
  refine hK1 _ ?_
  clear hK1 K1
  refine wpPre_i rfl (fun K1 hK1 => ?_)
  rw [if_neg (by go_simp; all_goals (intro h; cases h))]
  go_simp
  refine hK1 _ ?_
  clear hK1 K1
  refine wpPre_i rfl (fun K1 hK1 => ?_)
  rw [if_neg (by go_simp; all_goals (intro h; cases h))]
  go_simp
  refine hK1 _ ?_
  clear hK1 K1
  refine wpPre_i rfl (fun K1 hK1 => ?_)
  rw [if_neg (by go_simp; all_goals (intro h; cases h))]
  go_simp
  refine hK1 _ ?_
  clear hK1 K1
  refine wpPre_e rfl rfl (fun K1 hK1 => ?_)
  apply Exists.intro
  refine And.intro (fun wx hx => ?_) ?_
  · go_simp
    try rfl
  go_simp
  refine hK1 _ ?_
  clear hK1 K1
  refine wpPre_nil ?_
  refine wpStg_nil ?_
  go_wp2
  have hbt : But (fun k => k = w.heap.size) W (((W.setCell ⟨w.heap.size, 0, none⟩ (.int .i64 0)).setCell ⟨w.heap.size, 1, none⟩ (.int .u32 0)).setCell ⟨w.heap.size, 2, none⟩ (.slice none 0 0)).drew := ((((But.one W _).setAt 0 _).setAt 1 _).setAt 2 _).trans (But.ofBelow (Below.refl _ _).drew)
  refine bodyPost_ret (v := .tuple #[.int .i64 0, .agg #[.int .i64 0, .int .u32 0, .slice none 0 0]]) (by simp [results, Try.results44, go_sem, z0, z1, z2]) rfl ?_
  exact ⟨rfl, HB.out.trans (hbt.below HB.out.size (fun k hk e => by omega))⟩
set_option maxHeartbeats 8000000 in
theorem rpick_none (w : World) (b : Nat) (R : Rp) (hI : RpI w b R) (n : Nat) (pt : LT PtT) (tk : LT Int) (hU : RU w b R n pt tk) (hm : (R.sh.item n).pk = (pt.n : Int)) : Calls Try.prog 44 #[.pointer (some ⟨b, 0, none⟩)] w fun e w' => RpkN w e w' := by
  obtain ⟨W, hW⟩ : ∃ V, V = w.alloc (.cells #[.int .i64 0, .int .u32 0, .slice none 0 0] 48) := ⟨_, rfl⟩
  have hB : Below w.heap.size w W := by rw [hW]; exact (Below.refl _ _).alloc (Nat.le_refl _) _
  have hZ : Box W w.heap.size #[.int .i64 0, .int .u32 0, .slice none 0 0] 48 := by rw [hW]; exact Box.new _ _ _
  have hIW := hI.below hB
  have HI := hid hI
  have HIW := hid hIW
  have HB := hid hB
  have HZ := hid hZ
  have HW := hid hW
  have HN := hid (rnow_any W b R hIW)
  have c0 := hIW.box.cell 0
  have c2 := hIW.box.cell 2
  have c3 := hIW.box.cell 3
  have bl := hIW.box.lt
  have z0 := hZ.cell 0
  have z1 := hZ.cell 1
  have z2 := hZ.cell 2
  have y0 := hZ.frozen 0
  have y1 := hZ.frozen 1
  have y2 := hZ.frozen 2
  have zl := hZ.lt
  have hn1 := hI.n1
  have hf0 := hI.f0
  have hf1 := hI.f1
  have ht0 := hI.t0
  have ht1 := hI.t1
  simp [Rp.arr] at c0 c2 c3
  simp at z0 z1 z2
  have HE := hid hU.now
  obtain ⟨g, hp, hgl, hob, hfz, hat⟩ := hIW.at_ (by have := hU.hn; omega)
  have hin : n < R.sh.n := by have := hU.hn; omega
  have r0 : W.cell? ⟨g, n * 5, none⟩ = some (.int .i64 (R.sh.item n).id) := hat n hin 0 _ rfl
  have r1 := hat n hin 1 _ rfl
  have r2 := hat n hin 2 _ rfl
  have r3 := hat n hin 3 _ rfl
  have r4 := hat n hin 4 _ rfl
  have f1 := hfz (n * 5 + 1)
  have f4 := hfz (n * 5 + 4)
  have hst := hU.st
  rw [hst.2.1] at r0
  rw [hst.1] at r1
  rw [hst.2.2.1, hst.2.2.2.1, hst.2.2.2.2.1] at r3
  rw [hst.2.2.2.2.2.1, hst.2.2.2.2.2.2.1, hst.2.2.2.2.2.2.2] at r2
  rw [hm] at r4
  have hin' : (n : Int) < (R.sh.n : Int) := by omega
  have hi0 : ¬ (n : Int) < 0 := by omega
  have HGp := hid hp
  have HOb := hid hob
  rw [hp] at c3
  clear hI hB hZ hIW hW hat hfz hob hp hst hU hm
  go_enter Try.func44, Try.ntmps44
  go_upto_region 1 with fail
  rw [← HW.out]
  go_wp2_with fail
  refine HN.out.mono ?_
  rintro e w1 hw1
  obtain ⟨rfl, hw1⟩ := hw1
  have hw1' : w1 = W := hw1
  rw [hw1', HE.out]
  clear hw1 hw1'
  clear w1
  go_upto_region 2 with fail
  refine wp_region_calmD 30 (fun wx => Below W.heap.size W wx) [(0, true), (1, true), (2, true), (3, true), (4, true), (5, true), (6, false), (7, true), (8, true), (9, true), (10, false), (11, true), (12, true), (13, true), (14, false), (15, true), (16, true), (17, true), (18, false), (19, true), (20, true), (21, true)] [] (by kernel_rfl) (by kernel_rfl) (Below.refl _ _).drew ?_
  refine wpPre_e rfl rfl (fun K1 hK1 => ?_)
  apply Exists.intro
  refine And.intro (fun wx hx => ?_) ?_
  · go_simp
    try rfl
  go_simp
  refine hK1 _ ?_
  clear hK1 K1
  refine wpPre_e rfl rfl (fun K1 hK1 => ?_)
  apply Exists.intro
  refine And.intro (fun wx hx => ?_) ?_
  · go_simp
    try rfl
  go_simp
  refine hK1 _ ?_
  clear hK1 K1
  refine wpPre_e rfl rfl (fun K1 hK1 => ?_)
  apply Exists.intro
  refine And.intro (fun wx hx => ?_) ?_
  · go_simp
    try rfl
  go_simp
  refine hK1 _ ?_
  clear hK1 K1
  refine wpPre_i rfl (fun K1 hK1 => ?_)
  rw [if_pos (by go_simp)]
  apply Exists.intro
  refine And.intro (fun wx hx => ?_) ?_
  · go_simp
    try rfl
  go_simp
  refine hK1 _ ?_
  clear hK1 K1
  refine wpPre_i rfl (fun K1 hK1 => ?_)
  rw [if_pos (by go_simp)]
  apply Exists.intro
  refine And.intro (fun wx hx => ?_) ?_
  · go_simp
    try rfl
  go_simp
  refine hK1 _ ?_
  clear hK1 K1
  refine wpPre_i rfl (fun K1 hK1 => ?_)
  rw [if_pos (by go_simp)]
  apply Exists.intro
  refine And.intro (fun wx hx => ?_) ?_
  · go_simp
    try rfl
  go_simp
  refine hK1 _ ?_
  clear hK1 K1
  refine wpPre_i rfl (fun K1 hK1 => ?_)
  rw [if_pos (by go_simp)]
  apply Exists.intro
  refine And.intro (fun wx hx => ?_) ?_
  · have e0 := below_fact hx rfl c3
    have e1 := below_fact hx rfl r2
    have e2 := below_fact hx rfl r4
    go_simp
    try rfl
  go_simp
  refine hK1 _ ?_
  clear hK1 K1
  refine wpPre_i rfl (fun K1 hK1 => ?_)
  rw [if_pos (by go_simp)]
  apply Exists.intro
  refine And.intro (fun wx hx => ?_) ?_
  · go_simp
    try rfl
  go_simp
  refine hK1 _ ?_
  clear hK1 K1
  refine wpPre_i rfl (fun K1 hK1 => ?_)
  rw [if_pos (by go_simp)]
  apply Exists.intro
  refine And.intro (fun wx hx => ?_) ?_
  · go_simp
    try rfl
  go_simp
  refine hK1 _ ?_
  clear hK1 K1
  refine wpPre_i rfl (fun K1 hK1 => ?_)
  rw [if_pos (by go_simp)]
  apply Exists.intro
  refine And.intro (fun wx hx => ?_) ?_
  · go_simp
    try rfl
  go_simp
  refine hK1 _ ?_
  clear hK1 K1
  refine wpPre_i rfl (fun K1 hK1 => ?_)
  rw [if_pos (by go_simp)]
  apply Exists.intro
  refine And.intro (fun wx hx => ?_) ?_
  · have e0 := below_fact hx rfl c3
    have e1 := below_fact hx rfl r2
    have e2 := below_fact hx rfl r4
    go_simp
    try rfl
  go_simp
  refine hK1 _ ?_
  clear hK1 K1
  refine wpPre_i rfl (fun K1 hK1 => ?_)
  rw [if_pos (by go_simp)]
  apply Exists.intro
  refine And.intro (fun wx hx => ?_) ?_
  · go_simp
    try rfl
  go_simp
  refine hK1 _ ?_
  clear hK1 K1
  refine wpPre_i rfl (fun K1 hK1 => ?_)
  rw [if_pos (by go_simp)]
  apply Exists.intro
  refine And.intro (fun wx hx => ?_) ?_
  · go_simp
    try rfl
  go_simp
  refine hK1 _ ?_
  clear hK1 K1
  refine wpPre_i rfl (fun K1 hK1 => ?_)
  rw [if_pos (by go_simp)]
  apply Exists.intro
  refine And.intro (fun wx hx => ?_) ?_
  · go_simp
    try rfl
  go_simp
  refine hK1 _ ?_
  clear hK1 K1
  refine wpPre_i rfl (fun K1 hK1 => ?_)
  rw [if_pos (by go_simp)]
  apply Exists.intro
  refine And.intro (fun wx hx => ?_) ?_
  · have e0 := below_fact hx rfl c3
    have e1 := below_fact hx rfl r2
    have e2 := below_fact hx rfl r4
    go_simp
    try rfl
  go_simp
  refine hK1 _ ?_
  clear hK1 K1
  refine wpPre_i rfl (fun K1 hK1 => ?_)
  rw [if_pos (by go_simp)]
  apply Exists.intro
  refine And.intro (fun wx hx => ?_) ?_
  · go_simp
    try rfl
  go_simp
  refine hK1 _ ?_
  clear hK1 K1
  refine wpPre_i rfl (fun K1 hK1 => ?_)
  rw [if_pos (by go_simp)]
  apply Exists.intro
  refine And.intro (fun wx hx => ?_) ?_
  · go_simp
    try rfl
  go_simp
  refine hK1 _ ?_
  clear hK1 K1
  refine wpPre_i rfl (fun K1 hK1 => ?_)
  rw [if_pos (by go_simp)]
  apply Exists.intro
  refine And.intro (fun wx hx => ?_) ?_
  · go_simp
    try rfl
  go_simp
  refine hK1 _ ?_
  clear hK1 K1
  refine wpPre_i rfl (fun K1 hK1 => ?_)
  rw [if_pos (by go_simp)]
  apply Exists.intro
  refine And.intro (fun wx hx => ?_) ?_
  · have e0 := below_fact hx rfl c3
    have e1 := below_fact hx rfl r2
    have e2 := below_fact hx rfl r4
    go_simp
    try rfl
  go_simp
  refine hK1 _ ?_
  clear hK1 K1
  refine wpPre_i rfl (fun K1 hK1 => ?_)
  rw [if_pos (by go_simp)]
  apply Exists.intro
  refine And.intro (fun wx hx => ?_) ?_
  · go_simp
    try rfl
  go_simp
  refine hK1 _ ?_
  clear hK1 K1
  refine wpPre_i rfl (fun K1 hK1 => ?_)
  rw [if_pos (by go_simp)]
  apply Exists.intro
  refine And.intro (fun wx hx => ?_) ?_
  · go_simp
    try rfl
  go_simp
  refine hK1 _ ?_
  clear hK1 K1
  refine wpPre_e rfl rfl (fun K1 hK1 => ?_)
  apply Exists.intro
  refine And.intro (fun wx hx => ?_) ?_
  · go_simp
    try rfl
  go_simp
  refine hK1 _ ?_
  clear hK1 K1
  refine wpPre_nil ?_
  refine wpStg_nil ?_
  go_wp2
  have hbt : But (fun k => k = w.heap.size) W (((W.setCell ⟨w.heap.size, 0, none⟩ (.int .i64 0)).setCell ⟨w.heap.size, 1, none⟩ (.int .u32 0)).setCell ⟨w.heap.size, 2, none⟩ (.slice none 0 0)).drew := ((((But.one W _).setAt 0 _).setAt 1 _).setAt 2 _).trans (But.ofBelow (Below.refl _ _).drew)
  refine bodyPost_ret (v := .tuple #[.int .i64 0, .agg #[.int .i64 0, .int .u32 0, .slice none 0 0]]) (by simp [results, Try.results44, go_sem, z0, z1, z2]) rfl ?_
  exact ⟨rfl, HB.out.trans (hbt.below HB.out.size (fun k hk e => by omega))⟩
structure RpkM (w : World) (b : Nat) (R : Rp) (n m : Nat) (e : Ending) (w' : World) : Prop where
  e : e = .returned (.tuple #[.int .i64 1, .agg #[.int .i64 0, .int .u32 0, .slice none 0 0]])
  s : RSet w b R w' (R.put n { R.sh.item n with pk := (m : Int) + 1 })
set_option maxHeartbeats 16000000 in
theorem rpick_more (w : World) (b : Nat) (R : Rp) (hI : RpI w b R) (n m : Nat) (pt : LT PtT) (tk : LT Int) (hU : RU w b R n pt tk) (hm : (R.sh.item n).pk = (m : Int)) (hmn : m < pt.n) (hmt : (m : Int) + 1 < R.tasks) : Calls Try.prog 44 #[.pointer (some ⟨b, 0, none⟩)] w fun e w' => RpkM w b R n m e w' := by
  obtain ⟨W, hW⟩ : ∃ V, V = w.alloc (.cells #[.int .i64 0, .int .u32 0, .slice none 0 0] 48) := ⟨_, rfl⟩
  have hB : Below w.heap.size w W := by rw [hW]; exact (Below.refl _ _).alloc (Nat.le_refl _) _
  have hZ : Box W w.heap.size #[.int .i64 0, .int .u32 0, .slice none 0 0] 48 := by rw [hW]; exact Box.new _ _ _
  have hIW := hI.below hB
  have HI := hid hI
  have HIW := hid hIW
  have HB := hid hB
  have HZ := hid hZ
  have HW := hid hW
  have HN := hid (rnow_any W b R hIW)
  have c0 := hIW.box.cell 0
  have c2 := hIW.box.cell 2
  have c3 := hIW.box.cell 3
  have bl := hIW.box.lt
  have z0 := hZ.cell 0
  have z1 := hZ.cell 1
  have z2 := hZ.cell 2
  have y0 := hZ.frozen 0
  have y1 := hZ.frozen 1
  have y2 := hZ.frozen 2
  have zl := hZ.lt
  have hn1 := hI.n1
  have hf0 := hI.f0
  have hf1 := hI.f1
  have ht0 := hI.t0
  have ht1 := hI.t1
  simp [Rp.arr] at c0 c2 c3
  simp at z0 z1 z2
  have HE := hid hU.now
  obtain ⟨g, hp, hgl, hob, hfz, hat⟩ := hIW.at_ (by have := hU.hn; omega)
  have hin : n < R.sh.n := by have := hU.hn; omega
  have r0 : W.cell? ⟨g, n * 5, none⟩ = some (.int .i64 (R.sh.item n).id) := hat n hin 0 _ rfl
  have r1 := hat n hin 1 _ rfl
  have r2 := hat n hin 2 _ rfl
  have r3 := hat n hin 3 _ rfl
  have r4 := hat n hin 4 _ rfl
  have f1 := hfz (n * 5 + 1)
  have f4 := hfz (n * 5 + 4)
  have hst := hU.st
  rw [hst.2.1] at r0
  rw [hst.1] at r1
  rw [hst.2.2.1, hst.2.2.2.1, hst.2.2.2.2.1] at r3
  rw [hst.2.2.2.2.2.1, hst.2.2.2.2.2.2.1, hst.2.2.2.2.2.2.2] at r2
  rw [hm] at r4
  have hin' : (n : Int) < (R.sh.n : Int) := by omega
  have hi0 : ¬ (n : Int) < 0 := by omega
  have HGp := hid hp
  have HOb := hid hob
  rw [hp] at c3
  have hmp : ((m : Int) == (pt.n : Int)) = false := by rw [beq_eq_false_iff_ne]; omega
  have hm12 := hU.m12
  have HU := hid hU
  obtain ⟨V, hV⟩ : ∃ V, V = (W.alloc (.cells #[.int .i64 (R.first + (n : Int)), .int .i64 1, .slice pt.p pt.n pt.c, .slice tk.p tk.n tk.c, .int .i64 ((m : Int) + 1)] 125)).drew := ⟨_, rfl⟩
  have hbV : Below W.heap.size W V := by rw [hV]; exact ((Below.refl _ _).alloc (Nat.le_refl _) _).drew
  have hS : Box V W.heap.size #[.int .i64 (R.first + (n : Int)), .int .i64 1, .slice pt.p pt.n pt.c, .slice tk.p tk.n tk.c, .int .i64 ((m : Int) + 1)] 125 := by rw [hV]; exact (Box.new _ _ _).below (Below.refl _ _).drew
  have hsW : W.heap.size = w.heap.size + 1 := by rw [hW]; simp
  have HV := hid hV
  have HS := hid hS
  have HBV := hid hbV
  have HsW := hid hsW
  have hwm : IntKind.i64.wrap ((m : Int) + 1) = (m : Int) + 1 := by rw [IntKind.wrap_i64]; omega
  have HmP := hid hm
  clear hI hB hZ hIW hW hat hfz hob hp hst hU hV hbV hS hsW hm
  go_enter Try.func44, Try.ntmps44
  go_upto_region 1 with fail
  rw [← HW.out]
  go_wp2_with fail
  refine HN.out.mono ?_
  rintro e w1 hw1
  obtain ⟨rfl, hw1⟩ := hw1
  have hw1' : w1 = W := hw1
  rw [hw1', HE.out]
  clear hw1 hw1'
  clear w1
  go_upto_region 2 with fail
  refine wp_region_calmD 30 (fun wx => Below W.heap.size W wx) [(0, true), (1, true), (2, true), (3, true), (4, true), (5, true), (6, false), (7, true), (8, true), (9, true), (10, false), (11, true), (12, true), (13, true), (14, false), (15, true), (16, true), (17, true), (18, false), (19, true), (20, true), (21, true)] [] (by kernel_rfl) (by kernel_rfl) (Below.refl _ _).drew ?_
  refine wpPre_e rfl rfl (fun K1 hK1 => ?_)
  apply Exists.intro
  refine And.intro (fun wx hx => ?_) ?_
  · go_simp
    try rfl
  go_simp
  refine hK1 _ ?_
  clear hK1 K1
  refine wpPre_e rfl rfl (fun K1 hK1 => ?_)
  apply Exists.intro
  refine And.intro (fun wx hx => ?_) ?_
  · go_simp
    try rfl
  go_simp
  refine hK1 _ ?_
  clear hK1 K1
  refine wpPre_e rfl rfl (fun K1 hK1 => ?_)
  apply Exists.intro
  refine And.intro (fun wx hx => ?_) ?_
  · go_simp
    try rfl
  go_simp
  refine hK1 _ ?_
  clear hK1 K1
  refine wpPre_i rfl (fun K1 hK1 => ?_)
  rw [if_pos (by go_simp)]
  apply Exists.intro
  refine And.intro (fun wx hx => ?_) ?_
  · go_simp
    try rfl
  go_simp
  refine hK1 _ ?_
  clear hK1 K1
  refine wpPre_i rfl (fun K1 hK1 => ?_)
  rw [if_pos (by go_simp)]
  apply Exists.intro
  refine And.intro (fun wx hx => ?_) ?_
  · go_simp
    try rfl
  go_simp
  refine hK1 _ ?_
  clear hK1 K1
  refine wpPre_i rfl (fun K1 hK1 => ?_)
  rw [if_pos (by go_simp)]
  apply Exists.intro
  refine And.intro (fun wx hx => ?_) ?_
  · go_simp
    try rfl
  go_simp
  refine hK1 _ ?_
  clear hK1 K1
  refine wpPre_i rfl (fun K1 hK1 => ?_)
  rw [if_pos (by go_simp)]
  apply Exists.intro
  refine And.intro (fun wx hx => ?_) ?_
  · have e0 := below_fact hx rfl c3
    have e1 := below_fact hx rfl r2
    have e2 := below_fact hx rfl r4
    go_simp
    try rfl
  go_simp
  refine hK1 _ ?_
  clear hK1 K1
  refine wpPre_i rfl (fun K1 hK1 => ?_)
  rw [if_pos (by go_simp)]
  apply Exists.intro
  refine And.intro (fun wx hx => ?_) ?_
  · go_simp
    try rfl
  go_simp
  refine hK1 _ ?_
  clear hK1 K1
  refine wpPre_i rfl (fun K1 hK1 => ?_)
  rw [if_pos (by go_simp)]
  apply Exists.intro
  refine And.intro (fun wx hx => ?_) ?_
  · go_simp
    try rfl
  go_simp
  refine hK1 _ ?_
  clear hK1 K1
  refine wpPre_i rfl (fun K1 hK1 => ?_)
  rw [if_pos (by go_simp)]
  apply Exists.intro
  refine And.intro (fun wx hx => ?_) ?_
  · go_simp
    try rfl
  go_simp
  refine hK1 _ ?_
  clear hK1 K1
  refine wpPre_i rfl (fun K1 hK1 => ?_)
  rw [if_pos (by go_simp)]
  apply Exists.intro
  refine And.intro (fun wx hx => ?_) ?_
  · have e0 := below_fact hx rfl c3
    have e1 := below_fact hx rfl r2
    have e2 := below_fact hx rfl r4
    go_simp
    try rfl
  go_simp
  refine hK1 _ ?_
  clear hK1 K1
  refine wpPre_i rfl (fun K1 hK1 => ?_)
  rw [if_pos (by go_simp)]
  apply Exists.intro
  refine And.intro (fun wx hx => ?_) ?_
  · go_simp
    try rfl
  go_simp
  refine hK1 _ ?_
  clear hK1 K1
  refine wpPre_i rfl (fun K1 hK1 => ?_)
  rw [if_pos (by go_simp)]
  apply Exists.intro
  refine And.intro (fun wx hx => ?_) ?_
  · go_simp
    try rfl
  go_simp
  refine hK1 _ ?_
  clear hK1 K1
  refine wpPre_i rfl (fun K1 hK1 => ?_)
  rw [if_pos (by go_simp)]
  apply Exists.intro
  refine And.intro (fun wx hx => ?_) ?_
  · go_simp
    try rfl
  go_simp
  refine hK1 _ ?_
  clear hK1 K1
  refine wpPre_i rfl (fun K1 hK1 => ?_)
  rw [if_pos (by go_simp)]
  apply Exists.intro
  refine And.intro (fun wx hx => ?_) ?_
  · have e0 := below_fact hx rfl c3
    have e1 := below_fact hx rfl r2
    have e2 := below_fact hx rfl r4
    go_simp
    try rfl
  go_simp
  refine hK1 _ ?_
  clear hK1 K1
  refine wpPre_i rfl (fun K1 hK1 => ?_)
  rw [if_pos (by go_simp)]
  apply Exists.intro
  refine And.intro (fun wx hx => ?_) ?_
  · go_simp
    try rfl
  go_simp
  refine hK1 _ ?_
  clear hK1 K1
  refine wpPre_i rfl (fun K1 hK1 => ?_)
  rw [if_pos (by go_simp)]
  apply Exists.intro
  refine And.intro (fun wx hx => ?_) ?_
  · go_simp
    try rfl
  go_simp
  refine hK1 _ ?_
  clear hK1 K1
  refine wpPre_i rfl (fun K1 hK1 => ?_)
  rw [if_pos (by go_simp)]
  apply Exists.intro
  refine And.intro (fun wx hx => ?_) ?_
  · go_simp
    try rfl
  go_simp
  refine hK1 _ ?_
  clear hK1 K1
  refine wpPre_i rfl (fun K1 hK1 => ?_)
  rw [if_pos (by go_simp)]
  apply Exists.intro
  refine And.intro (fun wx hx => ?_) ?_
  · have e0 := below_fact hx rfl c3
    have e1 := below_fact hx rfl r2
    have e2 := below_fact hx rfl r4
    go_simp
    try rfl
  go_simp
  refine hK1 _ ?_
  clear hK1 K1
  refine wpPre_i rfl (fun K1 hK1 => ?_)
  rw [if_pos (by go_simp)]
  apply Exists.intro
  refine And.intro (fun wx hx => ?_) ?_
  · go_simp
    try rfl
  go_simp
  refine hK1 _ ?_
  clear hK1 K1
  refine wpPre_i rfl (fun K1 hK1 => ?_)
  rw [if_pos (by go_simp)]
  apply Exists.intro
  refine And.intro (fun wx hx => ?_) ?_
  · go_simp
    try rfl
  go_simp
  refine hK1 _ ?_
  clear hK1 K1
  refine wpPre_e rfl rfl (fun K1 hK1 => ?_)
  apply Exists.intro
  refine And.intro (fun wx hx => ?_) ?_
  · go_simp
    try rfl
  go_simp
  refine hK1 _ ?_
  clear hK1 K1
  refine wpPre_nil ?_
  refine wpStg_nil ?_
  go_upto_region 6 with fail
  rw [← HV.out]
  have hIV := HIW.out.below HBV.out
  have hZV := HZ.out.below HBV.out
  obtain ⟨g9, hp9, hgl9, hob9, hfz9, hat9⟩ := hIV.at_ (by have := HU.out.hn; omega)
  have hgg : g9 = g := by rw [HGp.out] at hp9; simpa using hp9.symm
  subst hgg
  have v3 := hat9 n hin 4 _ rfl
  have fv4 := hfz9 (n * 5 + 4)
  clear c0 c2 c3 bl z0 z1 z2 y0 y1 y2 zl r0 r1 r2 r3 r4 f1 f4 hgl HN
  have c3 := hIV.box.cell 3
  have bl := hIV.box.lt
  simp [Rp.arr] at c3
  rw [hp9] at c3
  have s4 := HS.out.cell 4
  have sl := HS.out.lt
  simp at s4
  have HIV := hid hIV
  have HZV := hid hZV
  have hwl : g9 < w.heap.size := (HI.out.own.lt g9 hob9).2
  have hgs : g9 ≠ W.heap.size := by have := HsW.out; omega
  have hgs' : W.heap.size ≠ g9 := fun e => hgs e.symm
  have hgz : g9 ≠ w.heap.size := by omega
  have hgz' : w.heap.size ≠ g9 := fun e => hgz e.symm
  have hgb : g9 ≠ b := fun e => HI.out.ne (by rw [show R.lv.ownBlock = some g9 from hob9, e])
  have hgb' : b ≠ g9 := fun e => hgb e.symm
  have HOb9 := hid hob9
  clear hIV hZV hat9 hfz9 hob9
  refine wp_region_calmE 30 (fun wx => Below V.heap.size V wx) [(0, true), (1, true), (2, true), (3, false), (4, true), (5, true), (6, false), (7, true), (8, true)] (.one 9 false [] .done) (by kernel_rfl) (by kernel_rfl) (Below.refl _ _).drew ?_
  refine wpPre_e rfl rfl (fun K1 hK1 => ?_)
  apply Exists.intro
  refine And.intro (fun wx hx => ?_) ?_
  · go_simp
    try rfl
  go_simp
  refine hK1 _ ?_
  clear hK1 K1
  refine wpPre_e rfl rfl (fun K1 hK1 => ?_)
  apply Exists.intro
  refine And.intro (fun wx hx => ?_) ?_
  · go_simp
    try rfl
  go_simp
  refine hK1 _ ?_
  clear hK1 K1
  refine wpPre_e rfl rfl (fun K1 hK1 => ?_)
  apply Exists.intro
  refine And.intro (fun wx hx => ?_) ?_
  · go_simp
    try rfl
  go_simp
  refine hK1 _ ?_
  clear hK1 K1
  refine wpPre_e rfl rfl (fun K1 hK1 => ?_)
  apply Exists.intro
  refine And.intro (fun wx hx => ?_) ?_
  · have e0 := below_fact hx rfl c3
    have e1 := below_fact hx rfl s4
    go_simp
    try rfl
  go_simp
  refine hK1 _ ?_
  clear hK1 K1
  refine wpPre_e rfl rfl (fun K1 hK1 => ?_)
  apply Exists.intro
  refine And.intro (fun wx hx => ?_) ?_
  · go_simp
    try rfl
  go_simp
  refine hK1 _ ?_
  clear hK1 K1
  refine wpPre_e rfl rfl (fun K1 hK1 => ?_)
  apply Exists.intro
  refine And.intro (fun wx hx => ?_) ?_
  · go_simp
    try rfl
  go_simp
  refine hK1 _ ?_
  clear hK1 K1
  refine wpPre_e rfl rfl (fun K1 hK1 => ?_)
  apply Exists.intro
  refine And.intro (fun wx hx => ?_) ?_
  · have e0 := below_fact hx rfl c3
    have e1 := below_fact hx rfl s4
    go_simp
    try rfl
  go_simp
  refine hK1 _ ?_
  clear hK1 K1
  refine wpPre_e rfl rfl (fun K1 hK1 => ?_)
  apply Exists.intro
  refine And.intro (fun wx hx => ?_) ?_
  · go_simp
    try rfl
  go_simp
  refine hK1 _ ?_
  clear hK1 K1
  refine wpPre_e rfl rfl (fun K1 hK1 => ?_)
  apply Exists.intro
  refine And.intro (fun wx hx => ?_) ?_
  · go_simp
    try rfl
  go_simp
  refine hK1 _ ?_
  clear hK1 K1
  refine wpPre_nil ?_
  refine wpTr_e rfl (fun K1 hK1 => ?_)
  go_simp
  refine hK1 _ _ (fun h => by cases h) ?_
  clear hK1 K1
  refine wpPre_nil ?_
  refine wpTr_done ?_
  obtain ⟨Y, hY⟩ : ∃ Y, Y = (V.setCell ⟨g9, n * 5 + 4, none⟩ (.int .i64 ((m : Int) + 1))).drew := ⟨_, rfl⟩
  have HY := hid hY
  have hRY : RSet V b R Y (R.put n { R.sh.item n with pk := (m : Int) + 1 }) := by
    have h := HIV.out.put (r := 4) (i := n) (u := .int .i64 ((m : Int) + 1)) (x := { R.sh.item n with pk := (m : Int) + 1 }) hp9 hin (by omega) rfl
    rw [hY]
    exact h.trans (RSet.same h.inv (Below.refl _ _).drew)
  have hbY : But (fun k => k = g9) V Y := by rw [hY]; exact ((But.one V g9).setAt _ _).trans (But.ofBelow (Below.refl _ _).drew)
  have hSY : Box Y W.heap.size #[.int .i64 (R.first + (n : Int)), .int .i64 1, .slice pt.p pt.n pt.c, .slice tk.p tk.n tk.c, .int .i64 ((m : Int) + 1)] 125 := HS.out.kept (hbY.block _ HS.out.lt hgs')
  have hZY : Box Y w.heap.size #[.int .i64 0, .int .u32 0, .slice none 0 0] 48 := HZV.out.kept (hbY.block _ HZV.out.lt hgz')
  have s4y := hSY.cell 4
  have sly := hSY.lt
  have c0y := hRY.inv.box.cell 0
  have bly := hRY.inv.box.lt
  simp [Rp.arr] at s4y c0y
  have c0y : Y.cell? ⟨b, 0, none⟩ = some (.int .i64 R.tasks) := c0y
  have HRY := hid hRY
  have HbY := hid hbY
  have HSY := hid hSY
  have HZY := hid hZY
  clear hY hRY hbY hSY hZY s4 sl c3 bl v3 fv4
  go_upto_region 7 with fail
  rw [← HY.out]
  refine wp_region_calmD 30 (fun wx => Below Y.heap.size Y wx) [(0, true), (1, false), (2, true), (3, true), (4, true), (5, false), (6, true)] [] (by kernel_rfl) (by kernel_rfl) (Below.refl _ _).drew ?_
  refine wpPre_e rfl rfl (fun K1 hK1 => ?_)
  apply Exists.intro
  refine And.intro (fun wx hx => ?_) ?_
  · go_simp
    try rfl
  go_simp
  refine hK1 _ ?_
  clear hK1 K1
  refine wpPre_e rfl rfl (fun K1 hK1 => ?_)
  apply Exists.intro
  refine And.intro (fun wx hx => ?_) ?_
  · have e0 := below_fact hx rfl s4y
    have e1 := below_fact hx rfl c0y
    go_simp
    try rfl
  go_simp
  refine hK1 _ ?_
  clear hK1 K1
  refine wpPre_e rfl rfl (fun K1 hK1 => ?_)
  apply Exists.intro
  refine And.intro (fun wx hx => ?_) ?_
  · go_simp
    try rfl
  go_simp
  refine hK1 _ ?_
  clear hK1 K1
  refine wpPre_e rfl rfl (fun K1 hK1 => ?_)
  apply Exists.intro
  refine And.intro (fun wx hx => ?_) ?_
  · go_simp
    try rfl
  go_simp
  refine hK1 _ ?_
  clear hK1 K1
  refine wpPre_e rfl rfl (fun K1 hK1 => ?_)
  apply Exists.intro
  refine And.intro (fun wx hx => ?_) ?_
  · go_simp
    try rfl
  go_simp
  refine hK1 _ ?_
  clear hK1 K1
  refine wpPre_e rfl rfl (fun K1 hK1 => ?_)
  apply Exists.intro
  refine And.intro (fun wx hx => ?_) ?_
  · have e0 := below_fact hx rfl s4y
    have e1 := below_fact hx rfl c0y
    go_simp
    try rfl
  go_simp
  refine hK1 _ ?_
  clear hK1 K1
  refine wpPre_e rfl rfl (fun K1 hK1 => ?_)
  apply Exists.intro
  refine And.intro (fun wx hx => ?_) ?_
  · go_simp
    try rfl
  go_simp
  refine hK1 _ ?_
  clear hK1 K1
  refine wpPre_nil ?_
  refine wpStg_nil ?_
  have z0 := HZY.out.cell 0
  have z1 := HZY.out.cell 1
  have z2 := HZY.out.cell 2
  have y0 := HZY.out.frozen 0
  have y1 := HZY.out.frozen 1
  have y2 := HZY.out.frozen 2
  have zl := HZY.out.lt
  simp at z0 z1 z2
  go_wp2
  have hbt : But (fun k => k = w.heap.size) Y (((Y.setCell ⟨w.heap.size, 0, none⟩ (.int .i64 0)).setCell ⟨w.heap.size, 1, none⟩ (.int .u32 0)).setCell ⟨w.heap.size, 2, none⟩ (.slice none 0 0)).drew := ((((But.one Y _).setAt 0 _).setAt 1 _).setAt 2 _).trans (But.ofBelow (Below.refl _ _).drew)
  refine bodyPost_ret (v := .tuple #[.int .i64 1, .agg #[.int .i64 0, .int .u32 0, .slice none 0 0]]) (by simp [results, Try.results44, go_sem, z0, z1, z2]) rfl ?_
  have hbwV := HB.out.trans (HBV.out.mono HB.out.size)
  have hs1 := hbwV.size
  have hs2 := HRY.out.but.size
  refine ⟨rfl, HRY.out.inv.kept (fun k hk hl => hbt.block k hl (fun e => by have h1 : R.C b k := hk; have := HI.out.lt h1; omega)), ⟨hbt.os.trans (HRY.out.but.os.trans hbwV.os), hbt.tape.trans (HRY.out.but.tape.trans hbwV.tape), hbt.output.trans (HRY.out.but.output.trans hbwV.output), Nat.le_trans hs1 (Nat.le_trans hs2 hbt.size), fun k hl hn => ?_⟩, fun _ h => .inl h⟩
  exact (hbt.block k (by omega) (by omega)).trans ((HRY.out.but.block k (by omega) hn).trans (hbwV.block k hl))
end Go.Proofs.Ytldkepokcbjlpaa
