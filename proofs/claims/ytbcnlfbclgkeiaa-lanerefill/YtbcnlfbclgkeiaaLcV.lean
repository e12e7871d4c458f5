import Derived.Test.YtbcnlfbclgkeiaaLcU
import Derived.Deep.DeepCutAuto
namespace Go.Proofs.Ytbcnlfbclgkeiaa
open Go.RowKit Go.Conc
set_option maxRecDepth 8000
theorem CopyI.alike {x u : IT} (h : CopyI x u) (hf : IT.Fine x) : IT.Alike x u := by
  refine ⟨h.m, ?_⟩
  by_cases h0 : x.mark = 0
  · exact h.r h0
  · rw [hf.z h0, h.z h0]
    exact ⟨rfl, VT.Alike.refl _, rfl, fun _ _ => rfl⟩
theorem full_pos (w : World) (Z : Nat → Prop) (b : Nat) (L : Ln) (hI : LnI w Z b L) (hr : 0 < L.room) : Calls Try.prog 18 #[.pointer (some ⟨b, 0, none⟩)] w fun e w' => e = .returned (.bool (decide (L.room ≤ (nR L.q : Int)))) ∧ Below w.heap.size w w' :=
  (full_any w Z b L hI).mono fun e w' h => ⟨by rw [h.1]; unfold fullB; rw [decide_eq_true hr]; rfl, h.2⟩
set_option maxRecDepth 60000 in
set_option maxHeartbeats 16000000 in
/-- LaneRefill -/
theorem laneRefill_walk (room : Int) (l : LT IT) (f : LT RT) (w : World) (hin : LT.In elItem w (fun b => b < w.heap.size) l) (hif : LT.In elRec w (fun b => b < w.heap.size) f) : Calls Try.prog 4 #[.int .i64 room, .slice l.p l.n l.c, .slice f.p f.n f.c] w fun e w' => e = .returned (.bool true) ∧ Below w.heap.size w w' := by
  have HI := hid hin
  have HF := hid hif
  have HFw := hid (szItems_few l w hin)
  have hfn := hif.nn
  have hlnn := hin.nn
  clear hin hif
  go_enter Try.func4, Try.ntmps4
  go_wp2_with fail
  refine HFw.out.mono ?_
  rintro e w1 ⟨r, rfl, hr, hB1⟩
  have HB1 := hid hB1
  have HF1 : Hid (LT.In elRec w1 (fun b => b < w1.heap.size) f) := (HF.out.below hB1).mono fun k hk _ => by have := hB1.size; omega
  cases r with
  | false =>
    clear hr hB1
    go_wp2
    exact bodyPost_ret (v := .bool true) (by simp [results, Try.results4, go_sem]) rfl ⟨rfl, HB1.out⟩
  | true =>
  have hsum := hr rfl
  have hln : l.n ≤ 10000 := Nat.le_trans (l.sumI_le l.n) hsum
  have HSum := hid hsum
  have HFr := hid (szRecords_few f w1 HF1.out)
  clear hr hB1 hsum HFw
  go_wp2_with fail
  refine HFr.out.mono ?_
  rintro e w2 ⟨r, rfl, hr, hB2⟩
  have HB2 := hid (HB1.out.trans (hB2.mono HB1.out.size))
  cases r with
  | false =>
    clear hr hB2
    go_wp2
    exact bodyPost_ret (v := .bool true) (by simp [results, Try.results4, go_sem]) rfl ⟨rfl, HB2.out⟩
  | true =>
  have hsf := hr rfl
  have hf10 : f.n ≤ 10000 := Nat.le_trans (f.sumR_le f.n) hsf
  have HSf := hid hsf
  clear hr hB2 hsf HFr
  go_upto_region 3 with fail
  go_cut [32] from 19 (fun x wc => wc = w2 ∧ x = .bool (decide (room < 1) || decide (8 < room)))
  case first =>
    by_cases h1 : room < 1
    · have hd : decide (room < 1) = true := decide_eq_true h1
      go_wp2_with fail
      go_meet
      case rel => exact ⟨rfl, by simp [h1]⟩
    · have hd : decide (room < 1) = false := decide_eq_false h1
      have HH := hid h1
      clear h1
      go_wp2_with fail
      go_meet
      case rel => exact ⟨rfl, by rw [hd]; simp⟩
  case rest =>
  obtain ⟨hwc, rfl⟩ := hcut
  subst wc
  go_upto_if 32 with fail
  go_cut [0] from 19 (fun x wc => wc = w2 ∧ ∃ R : Int, x = .int .i64 R ∧ 1 ≤ R ∧ R ≤ 8)
  case first =>
    by_cases h1 : room < 1 ∨ 8 < room
    · have hd : (decide (room < 1) || decide (8 < room)) = true := by rcases h1 with h | h <;> simp [h]
      rw [hd]
      clear h1 hd
      go_wp2_with fail
      go_meet
      case rel => exact ⟨rfl, 1, rfl, by omega, by omega⟩
    · have hd : (decide (room < 1) || decide (8 < room)) = false := by
        rw [not_or] at h1
        simp [h1.1, h1.2]
      have HH := hid h1
      rw [hd]
      clear h1 hd
      go_wp2_with fail
      go_meet
      case rel => exact ⟨rfl, room, rfl, by have := HH.out; omega, by have := HH.out; omega⟩
  case rest =>
  obtain ⟨hwc, R, rfl, hR1, hR8⟩ := hcut
  subst wc
  have HNw := hid (lnew_any R w2 (fun _ => False) (fun _ h => h.elim))
  go_wp2_with fail
  refine HNw.out.mono ?_
  rintro e w3 ⟨_, hN⟩
  obtain ⟨rfl, hL, hB3⟩ := hN (by omega)
  obtain ⟨b, hb⟩ : ∃ b, b = w2.heap.size + 1 := ⟨_, rfl⟩
  obtain ⟨L, hLe⟩ : ∃ L, L = Ln.mk R none w2.heap.size R.toNat [] := ⟨_, rfl⟩
  have hbw : w.heap.size ≤ w2.heap.size := HB2.out.size
  rw [← hb, ← hLe] at hL
  rw [← hb]
  have hLr : Hid (L.room = R ∧ L.q = [] ∧ ∀ k, L.C b k → w.heap.size ≤ k) := by
    rw [hLe, hb]
    refine ⟨rfl, rfl, ?_⟩
    rintro k (e | e | e)
    · omega
    · have e' : k = w2.heap.size := e
      omega
    · cases e
  have HB3 := hid (HB2.out.trans (hB3.mono HB2.out.size))
  have hs3 := HB3.out.size
  have HI3 : Hid (LT.In elItem w3 (fun k => ¬ L.C b k ∧ True) l) := ((HI.out).kept hs3 fun k hk _ => HB3.out.block k hk).mono fun k hk _ => ⟨fun e => by have := hLr.out.2.2 k e; omega, trivial⟩
  have HF3 : Hid (LT.In elRec w3 (fun k => ¬ L.C b k ∧ True) f) := ((HF.out).kept hs3 fun k hk _ => HB3.out.block k hk).mono fun k hk _ => ⟨fun e => by have := hLr.out.2.2 k e; omega, trivial⟩
  have HPt := hid (put_any w3 (fun _ => False) b L hL (fun _ h => h.elim) l _ HI3.out (fun k _ hk => hk.1) (fun j hj => Nat.le_trans (l.sumI_each hj) HSum.out) (by rw [hLr.out.2.1]; simp; omega))
  clear hL hB3 hN HNw hb hLe hbw
  go_wp2_with fail
  refine HPt.out.mono ?_
  rintro e w4 ⟨us, L1, er, rfl, hP, _⟩
  have hq1 : L1.q = us := by rw [hP.q, hLr.out.2.1, List.nil_append]
  have hr1 : L1.room = R := hP.set.room.trans hLr.out.1
  have hul : us.length ≤ 10000 := Nat.le_trans hP.le hln
  have HS4 := hid hP.set
  have HQ1 := hid hq1
  have HR1 := hid hr1
  have HF4 := hid (hP.set.keepL elRec HF3.out)
  have HLi := hid (list_any w4 (fun _ => False) b L1 hP.set.ln (fun _ h => h.elim))
  clear hP HPt hq1 hr1
  go_wp2_with fail
  refine HLi.out.mono ?_
  rintro e w5 ⟨wa, rfl, hwn, hwe, L2, hq2, hs5, hwi⟩
  rw [HQ1.out] at hwn hwe hq2
  have HS5 := hid hs5
  have HWn := hid hwn
  have HWe := hid hwe
  have HQ2 := hid hq2
  have HWi : Hid (LT.In elItem w5 (fun k => ¬ L2.C b k ∧ True) wa) := hwi.mono fun k hk _ => ⟨hk.1, trivial⟩
  have HF5 := hid (hs5.keepL elRec HF4.out)
  have HRf := hid (refill_any w5 (fun _ => False) b L2 hs5.ln (fun _ h => h.elim) f _ HF5.out (fun k _ hk => hk.1) (fun j hj => Nat.le_trans (f.sumR_each hj) HSf.out) (by rw [hq2]; omega))
  have hwn10 : wa.n ≤ 10000 := by omega
  clear hs5 hwn hwe hq2 hwi HLi
  go_wp2_with fail
  refine HRf.out.mono ?_
  rintro e w6 ⟨rfl, rs, L3, hRq⟩
  have HQ3 : Hid (L3.q = rs ++ us) := by show _ = _; rw [hRq.q, HQ2.out]
  have HS6 := hid hRq.set
  have HRl := hid hRq.len
  have HRe := hid hRq.each
  have HF6 := hid (hRq.set.keepL elRec HF5.out)
  have HW6 := hid (hRq.set.keepL elItem HWi.out)
  have HL6 := hid hRq.set.ln
  have hrl6 : L3.room = R := hRq.set.room.trans (HS5.out.room.trans HR1.out)
  have HR6 := hid hrl6
  have HB6 : Hid (Below w.heap.size w w6) := by
    have h1 := HB3.out.trans (HS4.out.but.below hs3 fun k hk e => by have := hLr.out.2.2 k e; omega)
    have c1 : ∀ k, L1.C b k → w.heap.size ≤ k := fun k hk => by rcases HS4.out.c k hk with e | e; exact hLr.out.2.2 k e; omega
    have h2 := h1.trans (HS5.out.but.below h1.size fun k hk e => by have := c1 k e; omega)
    have c2 : ∀ k, L2.C b k → w.heap.size ≤ k := fun k hk => by rcases HS5.out.c k hk with e | e; exact c1 k e; have := h1.size; omega
    exact h2.trans (hRq.set.but.below h2.size fun k hk e => by have := c2 k e; omega)
  have HC6 : Hid (∀ k, L3.C b k → w.heap.size ≤ k) := fun k hk => by
    have c1 : ∀ k, L1.C b k → w.heap.size ≤ k := fun k hk => by rcases HS4.out.c k hk with e | e; exact hLr.out.2.2 k e; omega
    have c2 : ∀ k, L2.C b k → w.heap.size ≤ k := fun k hk => by
      rcases HS5.out.c k hk with e | e
      · exact c1 k e
      · have := HS4.out.but.size; omega
    rcases hRq.set.c k hk with e | e
    · exact c2 k e
    · have := HS5.out.but.size; have := HS4.out.but.size; omega
  clear hRq HRf hrl6
  go_wp2_with fail
  go_loopw [11, 12] (fun y x wr => ∃ i : Nat, i ≤ wa.n ∧ x = .int .i64 (i : Int) ∧ y = .int .i64 ((f.n : Int) + (nR (us.take i) : Nat)) ∧ wr = w6) (fun _ x _ => wa.n - (intOf x).toNat)
  case atStart => exact ⟨0, Nat.zero_le _, rfl, by simp [nR], rfl⟩
  case round =>
    obtain ⟨i, hi, rfl, rfl, hwr⟩ := hrel
    subst wr
    have hnr : nR (us.take i) ≤ 10000 := Nat.le_trans (nR_le _) (by simp; omega)
    by_cases hlt : i < wa.n
    · have hlt' : (i : Int) < (wa.n : Int) := by omega
      obtain ⟨bb, o, hp, hSb, hbb, hat⟩ := HW6.out.at_ (by omega)
      rw [hp]
      have c0 : w6.cell? ⟨bb, o + i * 7, none⟩ = some (.int .i64 (wa.item i).mark) := hat i hlt 0 _ rfl
      obtain ⟨x, hx⟩ : ∃ x, us[i]? = some x := ⟨_, List.getElem?_eq_getElem (by rw [HWn.out] at hlt; exact hlt)⟩
      have hxm := (HWe.out i x hx).m
      rw [hxm] at c0
      clear hat
      by_cases hm : x.mark = 0
      · have hm' : (x.mark == 0) = true := by simp [hm]
        have HX := hid (nR_take_rec hx hm)
        clear hm hx hxm
        go_wp2_with fail
        go_roundw
        case rel => exact ⟨i + 1, by omega, by go_num, by rw [HX.out]; go_num, (by first | rfl | trivial)⟩
        case measure => simp [intOf]; omega
      · have hm' : (x.mark == 0) = false := by simp [hm]
        have HX := hid (nR_take_mark hx hm)
        clear hm hx hxm
        go_wp2_with fail
        go_roundw
        case rel => exact ⟨i + 1, by omega, by go_num, by rw [HX.out], (by first | rfl | trivial)⟩
        case measure => simp [intOf]; omega
    · obtain rfl : i = wa.n := by omega
      have hrn : nR rs = rs.length := by
        unfold nR
        rw [List.filter_eq_self.2 fun x hx => by
          obtain ⟨j, hj⟩ := List.getElem?_of_mem hx
          simpa using (HRe.out j x hj).1]
      have h0 : ((f.n : Int) + (nR (us.take wa.n) : Nat)) = ((nR ((rs ++ us).drop 0) : Nat) : Int) := by
        rw [List.drop_zero, nR_append, hrn, HRl.out, HWn.out, List.take_length]
        omega
      rw [h0]
      have hqr : nR (rs ++ us) ≤ 20000 := by
        have := nR_le (rs ++ us)
        rw [List.length_append, HRl.out] at this
        omega
      have H0 : Hid (LSet w6 (fun _ => False) b L3 w6 L3) := LSet.refl HL6.out
      have hwu := HWn.out
      have HHr := hid hrn
      have hT : rs.length + us.length = f.n + wa.n := by rw [HRl.out, HWn.out]
      have HT := hid hT
      clear hlt h0 hnr hrn hwu hT
      go_wp2_with fail
      go_loopw [11, 13] (fun y x wr => ∃ (i : Nat) (L4 : Ln), i ≤ f.n + wa.n ∧ x = .int .i64 (i : Int) ∧ y = .int .i64 (nR ((rs ++ us).drop i) : Nat) ∧ LSet w6 (fun _ => False) b L3 wr L4 ∧ L4.q = (rs ++ us).drop i) (fun _ x _ => f.n + wa.n - (intOf x).toNat)
      case atStart => exact ⟨0, L3, Nat.zero_le _, rfl, rfl, H0.out, by rw [List.drop_zero]; exact HQ3.out⟩
      case round =>
        obtain ⟨i, L4, hi2, rfl, rfl, hs, hq⟩ := hrel
        have HS := hid hs
        have HQ := hid hq
        have hnr : nR ((rs ++ us).drop i) ≤ 20000 := by
          have h1 := List.take_append_drop i (rs ++ us)
          have h2 : nR (rs ++ us) = nR ((rs ++ us).take i) + nR ((rs ++ us).drop i) := by rw [← nR_append, h1]
          omega
        have HF7 := hid (hs.keepL elRec HF6.out)
        have HW7 := hid (hs.keepL elItem HW6.out)
        have hrm : L4.room = R := hs.room.trans HR6.out
        have HFu := hid (full_pos wr (fun _ => False) b L4 hs.ln (by rw [hrm]; omega))
        rw [hrm, hq] at HFu
        clear hs hq H0 hrm
        by_cases hlt : i < f.n + wa.n
        · have hlt' : (i : Int) < (f.n : Int) + (wa.n : Int) := by omega
          have hil : i < (rs ++ us).length := by rw [List.length_append, HT.out]; exact hlt
          obtain ⟨x, hx⟩ : ∃ x, (rs ++ us)[i]? = some x := ⟨_, List.getElem?_eq_getElem hil⟩
          obtain ⟨q', hq'⟩ : ∃ q', q' = (rs ++ us).drop (i + 1) := ⟨_, rfl⟩
          have hq2 : L4.q = x :: q' := by
            rw [HQ.out, hq', List.drop_eq_getElem_cons hil]
            rw [List.getElem?_eq_getElem hil] at hx
            injection hx with hx
            rw [hx]
          have hdx : (rs ++ us).drop i = x :: q' := HQ.out.symm.trans hq2
          have HDx := hid (And.intro hdx (And.intro hx hq'))
          have HQ2 := hid hq2
          have hfp : f.p = f.p := rfl
          clear hdx hx hq' hq2 hfp
          by_cases hif : i < f.n
          · obtain ⟨bf, of, hpf, _, hbf, _⟩ := HF7.out.at_ (by omega)
            rw [hpf]
            go_wp2_with fail
            refine HFu.out.mono ?_
            rintro e w7 ⟨rfl, hB0⟩
            have hL7 := HS.out.ln.below hB0
            have HTk := hid (take_some w7 (fun _ => False) b L4 hL7 x q' HQ2.out)
            have HXI := hid (hL7.it x (by rw [HQ2.out]; exact List.mem_cons_self))
            have HS7 := hid (LSet.trans HS.out (LSet.below HS.out.ln hB0))
            have HF8 := hid (HF7.out.below hB0)
            have HW8 := hid (HW7.out.below hB0)
            clear hB0 hL7 HFu
            go_wp2_with fail
            refine HTk.out.mono ?_
            rintro e w8 ⟨rfl, ht⟩
            have HX8 := hid (ht.keep elItem HXI.out.1)
            have hF9 := ht.keepL elRec HF8.out
            have hW9 := ht.keepL elItem HW8.out
            obtain ⟨W, hW⟩ : ∃ W, W = w8.alloc (.cells #[.int .i64 x.mark, .string x.r.key, .int .i64 x.r.v.kind, .int .i64 x.r.v.int, .string x.r.v.text, .slice x.r.v.p x.r.v.n x.r.v.c, .slice x.r.p x.r.n x.r.c] 35) := ⟨_, rfl⟩
            have hB : Below w8.heap.size w8 W := by rw [hW]; exact (Below.refl _ _).alloc (Nat.le_refl _) _
            have hXb : Box W w8.heap.size #[.int .i64 x.mark, .string x.r.key, .int .i64 x.r.v.kind, .int .i64 x.r.v.int, .string x.r.v.text, .slice x.r.v.p x.r.v.n x.r.v.c, .slice x.r.p x.r.n x.r.c] 35 := by rw [hW]; exact Box.new _ _ _
            have HSw := hid (LSet.trans (LSet.trans HS7.out ht) (LSet.below ht.ln hB))
            have HW := hid hW
            have xl := hXb.lt
            have z0 := hXb.cell 0
            have z1 := hXb.cell 1
            have z2 := hXb.cell 2
            have z3 := hXb.cell 3
            have z4 := hXb.cell 4
            have z5 := hXb.cell 5
            have z6 := hXb.cell 6
            simp at z0 z1 z2 z3 z4 z5 z6
            have HXW := hid (IT.In.below HX8.out hB)
            have hF10 := hF9.below hB
            obtain ⟨b2, o2, hp2, _, hbb, hat⟩ := hF10.at_ (by omega)
            rw [hpf] at hp2
            injection hp2 with hp2
            injection hp2 with hp2a hp2b
            subst hp2a hp2b
            have f0 : W.cell? ⟨bf, of + i * 6, none⟩ = some (.string (f.item i).key) := hat i hif 0 _ rfl
            have f1 : W.cell? ⟨bf, of + i * 6 + 1, none⟩ = some (.int .i64 (f.item i).v.kind) := hat i hif 1 _ rfl
            have f2 : W.cell? ⟨bf, of + i * 6 + 2, none⟩ = some (.int .i64 (f.item i).v.int) := hat i hif 2 _ rfl
            have f3 : W.cell? ⟨bf, of + i * 6 + 3, none⟩ = some (.string (f.item i).v.text) := hat i hif 3 _ rfl
            have f4 : W.cell? ⟨bf, of + i * 6 + 4, none⟩ = some (.slice (f.item i).v.p (f.item i).v.n (f.item i).v.c) := hat i hif 4 _ rfl
            have f5 : W.cell? ⟨bf, of + i * 6 + 5, none⟩ = some (.slice (f.item i).p (f.item i).n (f.item i).c) := hat i hif 5 _ rfl
            have hxr : rs[i]? = some x := by
              have := HDx.out.2.1
              rw [List.getElem?_append_left (by rw [HRl.out]; exact hif)] at this
              exact this
            obtain ⟨hx0, hxa⟩ := HRe.out i x hxr
            have HC : Hid (∀ V, Below W.heap.size W V → Calls Try.prog 14 #[.agg #[.string x.r.key, .int .i64 x.r.v.kind, .int .i64 x.r.v.int, .string x.r.v.text, .slice x.r.v.p x.r.v.n x.r.v.c, .slice x.r.p x.r.n x.r.c], .agg #[.string (f.item i).key, .int .i64 (f.item i).v.kind, .int .i64 (f.item i).v.int, .string (f.item i).v.text, .slice (f.item i).v.p (f.item i).v.n (f.item i).v.c, .slice (f.item i).p (f.item i).n (f.item i).c]] V fun e w' => e = .returned (.bool true) ∧ Below V.heap.size V w') := fun V hV => sameRec_yes x.r (f.item i) V _ _ (HXW.out.r.below hV) (RT.In.below (hF10.each i hif) hV) (RT.Alike.two (t := f.item i) hxa ⟨rfl, VT.Alike.refl _, rfl, fun _ _ => rfl⟩ HXW.out.r)
            have hz0 : (x.mark == 0) = true := by simp [hx0]
            have hz1 : (x.mark != 0) = false := by simp [hx0]
            have hif' : (i : Int) < (f.n : Int) := by omega
            have hn1 : nR ((rs ++ us).drop i) = nR ((rs ++ us).drop (i + 1)) + 1 := by rw [HDx.out.1, ← HDx.out.2.2]; exact nR_cons0 q' hx0
            have HN1 := hid hn1
            have hHd : decide ((i : Int) < (f.n : Int)) = true := decide_eq_true hif'
            clear hat hB hXb hF9 hW9 hF10 ht HTk hW hxr hx0 hxa hn1
            unfold IT.val
            go_upto_region 25 with fail
            rw [← HW.out]
            go_upto_region 29 with fail
            refine wp_region_calmE 30 (fun wx => Below W.heap.size W wx) [(0, true), (1, true), (2, true), (3, true), (4, true), (5, true), (6, false), (7, true), (8, true), (9, true), (10, false), (11, true), (12, true), (13, true), (14, false)] (.one 15 false [(16, true), (17, true), (18, true)] .done) (by kernel_rfl) (by kernel_rfl) (Below.refl _ _).drew ?_
            refine wpPre_e rfl rfl (fun K1 hK1 => ?_)
            apply Exists.intro
            refine And.intro (fun wx hx => ?_) ?_
            · go_simp
              try rfl
            go_simp
            refine hK1 _ ?_
            clear hK1 K1
            refine wpPre_e rfl rfl (fun K1 hK1 => ?_)
            apply Exists.intro
            refine And.intro (fun wx hx => ?_) ?_
            · go_simp
              try rfl
            go_simp
            refine hK1 _ ?_
            clear hK1 K1
            refine wpPre_e rfl rfl (fun K1 hK1 => ?_)
            apply Exists.intro
            refine And.intro (fun wx hx => ?_) ?_
            · go_simp
              try rfl
            go_simp
            refine hK1 _ ?_
            clear hK1 K1
            refine wpPre_e rfl rfl (fun K1 hK1 => ?_)
            apply Exists.intro
            refine And.intro (fun wx hx => ?_) ?_
            · go_simp
              try rfl
            go_simp
            refine hK1 _ ?_
            clear hK1 K1
            refine wpPre_e rfl rfl (fun K1 hK1 => ?_)
            apply Exists.intro
            refine And.intro (fun wx hx => ?_) ?_
            · go_simp
              try rfl
            go_simp
            refine hK1 _ ?_
            clear hK1 K1
            refine wpPre_i rfl (fun K1 hK1 => ?_)
            rw [if_pos (by go_simp)]
            apply Exists.intro
            refine And.intro (fun wx hx => ?_) ?_
            · go_simp
              try rfl
            go_simp
            refine hK1 _ ?_
            clear hK1 K1
            refine wpPre_i rfl (fun K1 hK1 => ?_)
            rw [if_pos (by go_simp)]
            apply Exists.intro
            refine And.intro (fun wx hx => ?_) ?_
            · have e0 := below_fact hx rfl z0
              have e1 := below_fact hx rfl z1
              have e2 := below_fact hx rfl z2
              have e3 := below_fact hx rfl z3
              have e4 := below_fact hx rfl z4
              have e5 := below_fact hx rfl z5
              have e6 := below_fact hx rfl z6
              have e7 := below_fact hx rfl f0
              have e8 := below_fact hx rfl f1
              have e9 := below_fact hx rfl f2
              have e10 := below_fact hx rfl f3
              have e11 := below_fact hx rfl f4
              have e12 := below_fact hx rfl f5
              go_simp
              try rfl
            go_simp
            refine hK1 _ ?_
            clear hK1 K1
            refine wpPre_i rfl (fun K1 hK1 => ?_)
            rw [if_pos (by go_simp)]
            apply Exists.intro
            refine And.intro (fun wx hx => ?_) ?_
            · go_simp
              try rfl
            go_simp
            refine hK1 _ ?_
            clear hK1 K1
            refine wpPre_i rfl (fun K1 hK1 => ?_)
            rw [if_pos (by go_simp)]
            apply Exists.intro
            refine And.intro (fun wx hx => ?_) ?_
            · go_simp
              try rfl
            go_simp
            refine hK1 _ ?_
            clear hK1 K1
            refine wpPre_i rfl (fun K1 hK1 => ?_)
            rw [if_pos (by go_simp)]
            apply Exists.intro
            refine And.intro (fun wx hx => ?_) ?_
            · go_simp
              try rfl
            go_simp
            refine hK1 _ ?_
            clear hK1 K1
            refine wpPre_i rfl (fun K1 hK1 => ?_)
            rw [if_pos (by go_simp)]
            apply Exists.intro
            refine And.intro (fun wx hx => ?_) ?_
            · have e0 := below_fact hx rfl z0
              have e1 := below_fact hx rfl z1
              have e2 := below_fact hx rfl z2
              have e3 := below_fact hx rfl z3
              have e4 := below_fact hx rfl z4
              have e5 := below_fact hx rfl z5
              have e6 := below_fact hx rfl z6
              have e7 := below_fact hx rfl f0
              have e8 := below_fact hx rfl f1
              have e9 := below_fact hx rfl f2
              have e10 := below_fact hx rfl f3
              have e11 := below_fact hx rfl f4
              have e12 := below_fact hx rfl f5
              go_simp
              try rfl
            go_simp
            refine hK1 _ ?_
            clear hK1 K1
            refine wpPre_i rfl (fun K1 hK1 => ?_)
            rw [if_pos (by go_simp)]
            apply Exists.intro
            refine And.intro (fun wx hx => ?_) ?_
            · go_simp
              try rfl
            go_simp
            refine hK1 _ ?_
            clear hK1 K1
            refine wpPre_i rfl (fun K1 hK1 => ?_)
            rw [if_pos (by go_simp)]
            apply Exists.intro
            refine And.intro (fun wx hx => ?_) ?_
            · go_simp
              try rfl
            go_simp
            refine hK1 _ ?_
            clear hK1 K1
            refine wpPre_i rfl (fun K1 hK1 => ?_)
            rw [if_pos (by go_simp)]
            apply Exists.intro
            refine And.intro (fun wx hx => ?_) ?_
            · go_simp
              try rfl
            go_simp
            refine hK1 _ ?_
            clear hK1 K1
            refine wpPre_i rfl (fun K1 hK1 => ?_)
            rw [if_pos (by go_simp)]
            apply Exists.intro
            refine And.intro (fun wx hx => ?_) ?_
            · have e0 := below_fact hx rfl z0
              have e1 := below_fact hx rfl z1
              have e2 := below_fact hx rfl z2
              have e3 := below_fact hx rfl z3
              have e4 := below_fact hx rfl z4
              have e5 := below_fact hx rfl z5
              have e6 := below_fact hx rfl z6
              have e7 := below_fact hx rfl f0
              have e8 := below_fact hx rfl f1
              have e9 := below_fact hx rfl f2
              have e10 := below_fact hx rfl f3
              have e11 := below_fact hx rfl f4
              have e12 := below_fact hx rfl f5
              go_simp
              try rfl
            go_simp
            refine hK1 _ ?_
            clear hK1 K1
            refine wpPre_nil ?_
            refine wpTr_e rfl (fun K1 hK1 => ?_)
            refine step_callG (by go_simp) 14 #[.tmp 107, .tmp 111] _ rfl Try.f14 Try.func14 (by kernel_rfl) rfl #[.agg #[.string x.r.key, .int .i64 x.r.v.kind, .int .i64 x.r.v.int, .string x.r.v.text, .slice x.r.v.p x.r.v.n x.r.v.c, .slice x.r.p x.r.n x.r.c], .agg #[.string (f.item i).key, .int .i64 (f.item i).v.kind, .int .i64 (f.item i).v.int, .string (f.item i).v.text, .slice (f.item i).v.p (f.item i).v.n (f.item i).v.c, .slice (f.item i).p (f.item i).n (f.item i).c]] rfl _ (HC.out _ (Below.refl _ _).drew) (fun e w9 h9 => ?_)
            obtain ⟨rfl, hb9⟩ := h9
            refine ⟨_, rfl, ?_⟩
            have HSy := hid (LSet.trans HSw.out (LSet.below HSw.out.ln ((Below.refl W.heap.size W).drew.trans hb9)))
            clear hb9
            go_simp
            refine hK1 _ _ (fun h => by cases h) ?_
            clear hK1 K1
            refine wpPre_i rfl (fun K1 hK1 => ?_)
            rw [if_pos (by go_simp)]
            apply Exists.intro
            refine And.intro (fun wx hx => ?_) ?_
            · go_simp
              try rfl
            go_simp
            refine hK1 _ ?_
            clear hK1 K1
            refine wpPre_i rfl (fun K1 hK1 => ?_)
            rw [if_pos (by go_simp)]
            apply Exists.intro
            refine And.intro (fun wx hx => ?_) ?_
            · go_simp
              try rfl
            go_simp
            refine hK1 _ ?_
            clear hK1 K1
            refine wpPre_e rfl rfl (fun K1 hK1 => ?_)
            apply Exists.intro
            refine And.intro (fun wx hx => ?_) ?_
            · go_simp
              try rfl
            go_simp
            refine hK1 _ ?_
            clear hK1 K1
            refine wpPre_nil ?_
            refine wpTr_done ?_
            go_upto_region 31 with fail
            refine wp_region_calmE 30 (fun wx => Below w9.heap.size w9 wx) [(0, true), (1, true), (2, true), (3, true), (4, true), (5, false), (6, true), (7, true), (8, true), (9, true), (10, true), (11, true), (12, false)] (.one 13 false [(14, true), (15, true)] .done) (by kernel_rfl) (by kernel_rfl) (Below.refl _ _).drew ?_
            refine wpPre_e rfl rfl (fun K1 hK1 => ?_)
            apply Exists.intro
            refine And.intro (fun wx hx => ?_) ?_
            · go_simp
              try rfl
            go_simp
            refine hK1 _ ?_
            clear hK1 K1
            refine wpPre_e rfl rfl (fun K1 hK1 => ?_)
            apply Exists.intro
            refine And.intro (fun wx hx => ?_) ?_
            · go_simp
              try rfl
            go_simp
            refine hK1 _ ?_
            clear hK1 K1
            refine wpPre_e rfl rfl (fun K1 hK1 => ?_)
            apply Exists.intro
            refine And.intro (fun wx hx => ?_) ?_
            · go_simp
              try rfl
            go_simp
            refine hK1 _ ?_
            clear hK1 K1
            refine wpPre_e rfl rfl (fun K1 hK1 => ?_)
            apply Exists.intro
            refine And.intro (fun wx hx => ?_) ?_
            · go_simp
              try rfl
            go_simp
            refine hK1 _ ?_
            clear hK1 K1
            refine wpPre_e rfl rfl (fun K1 hK1 => ?_)
            apply Exists.intro
            refine And.intro (fun wx hx => ?_) ?_
            · go_simp
              try rfl
            go_simp
            refine hK1 _ ?_
            clear hK1 K1
            refine wpPre_i rfl (fun K1 hK1 => ?_)
            rw [if_neg (by go_simp; all_goals (intro h; cases h))]
            go_simp
            refine hK1 _ ?_
            clear hK1 K1
            refine wpPre_i rfl (fun K1 hK1 => ?_)
            rw [if_neg (by go_simp; all_goals (intro h; cases h))]
            go_simp
            refine hK1 _ ?_
            clear hK1 K1
            refine wpPre_i rfl (fun K1 hK1 => ?_)
            rw [if_neg (by go_simp; all_goals (intro h; cases h))]
            go_simp
            refine hK1 _ ?_
            clear hK1 K1
            refine wpPre_i rfl (fun K1 hK1 => ?_)
            rw [if_neg (by go_simp; all_goals (intro h; cases h))]
            go_simp
            refine hK1 _ ?_
            clear hK1 K1
            refine wpPre_i rfl (fun K1 hK1 => ?_)
            rw [if_neg (by go_simp; all_goals (intro h; cases h))]
            go_simp
            refine hK1 _ ?_
            clear hK1 K1
            refine wpPre_i rfl (fun K1 hK1 => ?_)
            rw [if_neg (by go_simp; all_goals (intro h; cases h))]
            go_simp
            refine hK1 _ ?_
            clear hK1 K1
            refine wpPre_i rfl (fun K1 hK1 => ?_)
            rw [if_neg (by go_simp; all_goals (intro h; cases h))]
            go_simp
            refine hK1 _ ?_
            clear hK1 K1
            refine wpPre_i rfl (fun K1 hK1 => ?_)
            rw [if_neg (by go_simp; all_goals (intro h; cases h))]
            go_simp
            refine hK1 _ ?_
            clear hK1 K1
            refine wpPre_nil ?_
            refine wpTr_e rfl (fun K1 hK1 => ?_)
            rw [if_neg (by go_simp; all_goals (intro h; cases h))]
            go_simp
            refine hK1 _ _ (fun h => by cases h) ?_
            clear hK1 K1
            refine wpPre_i rfl (fun K1 hK1 => ?_)
            rw [if_neg (by go_simp; all_goals (intro h; cases h))]
            go_simp
            refine hK1 _ ?_
            clear hK1 K1
            refine wpPre_e rfl rfl (fun K1 hK1 => ?_)
            apply Exists.intro
            refine And.intro (fun wx hx => ?_) ?_
            · go_simp
              try rfl
            go_simp
            refine hK1 _ ?_
            clear hK1 K1
            refine wpPre_nil ?_
            refine wpTr_done ?_
            have HSz := hid (LSet.trans HSy.out (LSet.below HSy.out.ln (Below.refl w9.heap.size w9).drew))
            go_wp2_with fail
            go_roundw
            case rel => exact ⟨i + 1, _, by omega, by go_num, by have := HN1.out; rw [this]; go_num, HSz.out, HDx.out.2.2⟩
            case measure => simp [intOf]; omega
          · obtain ⟨bf, of, hpf, _, hbf, _⟩ := HW7.out.at_ (by omega)
            rw [hpf]
            go_wp2_with fail
            refine HFu.out.mono ?_
            rintro e w7 ⟨rfl, hB0⟩
            have hL7 := HS.out.ln.below hB0
            have HTk := hid (take_some w7 (fun _ => False) b L4 hL7 x q' HQ2.out)
            have HXI := hid (hL7.it x (by rw [HQ2.out]; exact List.mem_cons_self))
            have HS7 := hid (LSet.trans HS.out (LSet.below HS.out.ln hB0))
            have HF8 := hid (HF7.out.below hB0)
            have HW8 := hid (HW7.out.below hB0)
            clear hB0 hL7 HFu
            go_wp2_with fail
            refine HTk.out.mono ?_
            rintro e w8 ⟨rfl, ht⟩
            have HX8 := hid (ht.keep elItem HXI.out.1)
            have hF9 := ht.keepL elRec HF8.out
            have hW9 := ht.keepL elItem HW8.out
            obtain ⟨W, hW⟩ : ∃ W, W = w8.alloc (.cells #[.int .i64 x.mark, .string x.r.key, .int .i64 x.r.v.kind, .int .i64 x.r.v.int, .string x.r.v.text, .slice x.r.v.p x.r.v.n x.r.v.c, .slice x.r.p x.r.n x.r.c] 35) := ⟨_, rfl⟩
            have hB : Below w8.heap.size w8 W := by rw [hW]; exact (Below.refl _ _).alloc (Nat.le_refl _) _
            have hXb : Box W w8.heap.size #[.int .i64 x.mark, .string x.r.key, .int .i64 x.r.v.kind, .int .i64 x.r.v.int, .string x.r.v.text, .slice x.r.v.p x.r.v.n x.r.v.c, .slice x.r.p x.r.n x.r.c] 35 := by rw [hW]; exact Box.new _ _ _
            have HSw := hid (LSet.trans (LSet.trans HS7.out ht) (LSet.below ht.ln hB))
            have HW := hid hW
            have xl := hXb.lt
            have z0 := hXb.cell 0
            have z1 := hXb.cell 1
            have z2 := hXb.cell 2
            have z3 := hXb.cell 3
            have z4 := hXb.cell 4
            have z5 := hXb.cell 5
            have z6 := hXb.cell 6
            simp at z0 z1 z2 z3 z4 z5 z6
            have HXW := hid (IT.In.below HX8.out hB)
            have hW10 := hW9.below hB
            obtain ⟨b2, o2, hp2, _, hbb, hat⟩ := hW10.at_ (by omega)
            rw [hpf] at hp2
            injection hp2 with hp2
            injection hp2 with hp2a hp2b
            subst hp2a hp2b
            obtain ⟨j, hj⟩ : ∃ j, i = f.n + j := ⟨i - f.n, by omega⟩
            have hjw : j < wa.n := by omega
            have f0 : W.cell? ⟨bf, of + j * 7, none⟩ = some (.int .i64 (wa.item j).mark) := hat j hjw 0 _ rfl
            have f1 : W.cell? ⟨bf, of + j * 7 + 1, none⟩ = some (.string (wa.item j).r.key) := hat j hjw 1 _ rfl
            have f2 : W.cell? ⟨bf, of + j * 7 + 2, none⟩ = some (.int .i64 (wa.item j).r.v.kind) := hat j hjw 2 _ rfl
            have f3 : W.cell? ⟨bf, of + j * 7 + 3, none⟩ = some (.int .i64 (wa.item j).r.v.int) := hat j hjw 3 _ rfl
            have f4 : W.cell? ⟨bf, of + j * 7 + 4, none⟩ = some (.string (wa.item j).r.v.text) := hat j hjw 4 _ rfl
            have f5 : W.cell? ⟨bf, of + j * 7 + 5, none⟩ = some (.slice (wa.item j).r.v.p (wa.item j).r.v.n (wa.item j).r.v.c) := hat j hjw 5 _ rfl
            have f6 : W.cell? ⟨bf, of + j * 7 + 6, none⟩ = some (.slice (wa.item j).r.p (wa.item j).r.n (wa.item j).r.c) := hat j hjw 6 _ rfl
            have hxu : us[j]? = some x := by
              have := HDx.out.2.1
              rw [List.getElem?_append_right (by rw [HRl.out]; omega), HRl.out, hj, Nat.add_sub_cancel_left] at this
              exact this
            have hca := (HWe.out j x hxu).alike HXI.out.2
            have HC : Hid (∀ V, Below W.heap.size W V → Calls Try.prog 19 #[.agg #[.int .i64 x.mark, .string x.r.key, .int .i64 x.r.v.kind, .int .i64 x.r.v.int, .string x.r.v.text, .slice x.r.v.p x.r.v.n x.r.v.c, .slice x.r.p x.r.n x.r.c], .agg #[.int .i64 (wa.item j).mark, .string (wa.item j).r.key, .int .i64 (wa.item j).r.v.kind, .int .i64 (wa.item j).r.v.int, .string (wa.item j).r.v.text, .slice (wa.item j).r.v.p (wa.item j).r.v.n (wa.item j).r.v.c, .slice (wa.item j).r.p (wa.item j).r.n (wa.item j).r.c]] V fun e w' => e = .returned (.bool true) ∧ Below V.heap.size V w') := fun V hV => sameItem_yes x (wa.item j) V _ _ (HXW.out.below hV) (IT.In.below (hW10.each j hjw) hV) hca
            have hjj : (i : Int) - (f.n : Int) = (j : Int) := by omega
            have hge : ¬ (i : Int) < (f.n : Int) := by omega
            have hge' : (f.n : Int) ≤ (i : Int) := by omega
            have hHd : decide ((i : Int) < (f.n : Int)) = false := decide_eq_false hge
            have hHe : decide ((f.n : Int) ≤ (i : Int)) = true := decide_eq_true hge'
            have hjl : (j : Int) < (wa.n : Int) := by omega
            have HJ := hid hj
            clear hat hB hXb hF9 hW9 hW10 ht HTk hW hxu hca hj
            unfold IT.val
            go_upto_region 25 with fail
            rw [← HW.out]
            by_cases hx0 : x.mark = 0
            · have hz0 : (x.mark == 0) = true := by simp [hx0]
              have hn1 : nR ((rs ++ us).drop i) = nR ((rs ++ us).drop (i + 1)) + 1 := by rw [HDx.out.1, ← HDx.out.2.2]; exact nR_cons0 q' hx0
              have HN1 := hid hn1
              clear hx0 hn1
              go_upto_region 29 with fail
              refine wp_region_calmE 30 (fun wx => Below W.heap.size W wx) [(0, true), (1, true), (2, true), (3, true), (4, true), (5, true), (6, false), (7, true), (8, true), (9, true), (10, false), (11, true), (12, true), (13, true), (14, false)] (.one 15 false [(16, true), (17, true), (18, true)] .done) (by kernel_rfl) (by kernel_rfl) (Below.refl _ _).drew ?_
              refine wpPre_e rfl rfl (fun K1 hK1 => ?_)
              apply Exists.intro
              refine And.intro (fun wx hx => ?_) ?_
              · go_simp
                try rfl
              go_simp
              refine hK1 _ ?_
              clear hK1 K1
              refine wpPre_e rfl rfl (fun K1 hK1 => ?_)
              apply Exists.intro
              refine And.intro (fun wx hx => ?_) ?_
              · go_simp
                try rfl
              go_simp
              refine hK1 _ ?_
              clear hK1 K1
              refine wpPre_e rfl rfl (fun K1 hK1 => ?_)
              apply Exists.intro
              refine And.intro (fun wx hx => ?_) ?_
              · go_simp
                try rfl
              go_simp
              refine hK1 _ ?_
              clear hK1 K1
              refine wpPre_e rfl rfl (fun K1 hK1 => ?_)
              apply Exists.intro
              refine And.intro (fun wx hx => ?_) ?_
              · go_simp
                try rfl
              go_simp
              refine hK1 _ ?_
              clear hK1 K1
              refine wpPre_e rfl rfl (fun K1 hK1 => ?_)
              apply Exists.intro
              refine And.intro (fun wx hx => ?_) ?_
              · go_simp
                try rfl
              go_simp
              refine hK1 _ ?_
              clear hK1 K1
              refine wpPre_i rfl (fun K1 hK1 => ?_)
              rw [if_neg (by go_simp; all_goals (intro h; cases h))]
              go_simp
              refine hK1 _ ?_
              clear hK1 K1
              refine wpPre_i rfl (fun K1 hK1 => ?_)
              rw [if_neg (by go_simp; all_goals (intro h; cases h))]
              go_simp
              refine hK1 _ ?_
              clear hK1 K1
              refine wpPre_i rfl (fun K1 hK1 => ?_)
              rw [if_neg (by go_simp; all_goals (intro h; cases h))]
              go_simp
              refine hK1 _ ?_
              clear hK1 K1
              refine wpPre_i rfl (fun K1 hK1 => ?_)
              rw [if_neg (by go_simp; all_goals (intro h; cases h))]
              go_simp
              refine hK1 _ ?_
              clear hK1 K1
              refine wpPre_i rfl (fun K1 hK1 => ?_)
              rw [if_neg (by go_simp; all_goals (intro h; cases h))]
              go_simp
              refine hK1 _ ?_
              clear hK1 K1
              refine wpPre_i rfl (fun K1 hK1 => ?_)
              rw [if_neg (by go_simp; all_goals (intro h; cases h))]
              go_simp
              refine hK1 _ ?_
              clear hK1 K1
              refine wpPre_i rfl (fun K1 hK1 => ?_)
              rw [if_neg (by go_simp; all_goals (intro h; cases h))]
              go_simp
              refine hK1 _ ?_
              clear hK1 K1
              refine wpPre_i rfl (fun K1 hK1 => ?_)
              rw [if_neg (by go_simp; all_goals (intro h; cases h))]
              go_simp
              refine hK1 _ ?_
              clear hK1 K1
              refine wpPre_i rfl (fun K1 hK1 => ?_)
              rw [if_neg (by go_simp; all_goals (intro h; cases h))]
              go_simp
              refine hK1 _ ?_
              clear hK1 K1
              refine wpPre_i rfl (fun K1 hK1 => ?_)
              rw [if_neg (by go_simp; all_goals (intro h; cases h))]
              go_simp
              refine hK1 _ ?_
              clear hK1 K1
              refine wpPre_nil ?_
              refine wpTr_e rfl (fun K1 hK1 => ?_)
              rw [if_neg (by go_simp; all_goals (intro h; cases h))]
              go_simp
              refine hK1 _ _ (fun h => by cases h) ?_
              clear hK1 K1
              refine wpPre_i rfl (fun K1 hK1 => ?_)
              rw [if_neg (by go_simp; all_goals (intro h; cases h))]
              go_simp
              refine hK1 _ ?_
              clear hK1 K1
              refine wpPre_i rfl (fun K1 hK1 => ?_)
              rw [if_neg (by go_simp; all_goals (intro h; cases h))]
              go_simp
              refine hK1 _ ?_
              clear hK1 K1
              refine wpPre_e rfl rfl (fun K1 hK1 => ?_)
              apply Exists.intro
              refine And.intro (fun wx hx => ?_) ?_
              · go_simp
                try rfl
              go_simp
              refine hK1 _ ?_
              clear hK1 K1
              refine wpPre_nil ?_
              refine wpTr_done ?_
              go_upto_region 31 with fail
              have hwj : IntKind.i64.wrap (j : Int) = (j : Int) := by rw [IntKind.wrap_i64]; omega
              refine wp_region_calmE 30 (fun wx => Below W.heap.size W wx) [(0, true), (1, true), (2, true), (3, true), (4, true), (5, false), (6, true), (7, true), (8, true), (9, true), (10, true), (11, true), (12, false)] (.one 13 false [(14, true), (15, true)] .done) (by kernel_rfl) (by kernel_rfl) (Below.refl _ _).drew.drew ?_
              refine wpPre_e rfl rfl (fun K1 hK1 => ?_)
              apply Exists.intro
              refine And.intro (fun wx hx => ?_) ?_
              · go_simp
                try rfl
              go_simp
              refine hK1 _ ?_
              clear hK1 K1
              refine wpPre_e rfl rfl (fun K1 hK1 => ?_)
              apply Exists.intro
              refine And.intro (fun wx hx => ?_) ?_
              · go_simp
                try rfl
              go_simp
              refine hK1 _ ?_
              clear hK1 K1
              refine wpPre_e rfl rfl (fun K1 hK1 => ?_)
              apply Exists.intro
              refine And.intro (fun wx hx => ?_) ?_
              · go_simp
                try rfl
              go_simp
              refine hK1 _ ?_
              clear hK1 K1
              refine wpPre_e rfl rfl (fun K1 hK1 => ?_)
              apply Exists.intro
              refine And.intro (fun wx hx => ?_) ?_
              · go_simp
                try rfl
              go_simp
              refine hK1 _ ?_
              clear hK1 K1
              refine wpPre_e rfl rfl (fun K1 hK1 => ?_)
              apply Exists.intro
              refine And.intro (fun wx hx => ?_) ?_
              · go_simp
                try rfl
              go_simp
              refine hK1 _ ?_
              clear hK1 K1
              refine wpPre_i rfl (fun K1 hK1 => ?_)
              rw [if_pos (by go_simp)]
              apply Exists.intro
              refine And.intro (fun wx hx => ?_) ?_
              · have e0 := below_fact hx rfl z0
                have e1 := below_fact hx rfl z1
                have e2 := below_fact hx rfl z2
                have e3 := below_fact hx rfl z3
                have e4 := below_fact hx rfl z4
                have e5 := below_fact hx rfl z5
                have e6 := below_fact hx rfl z6
                have e7 := below_fact hx rfl f0
                have e8 := below_fact hx rfl f1
                have e9 := below_fact hx rfl f2
                have e10 := below_fact hx rfl f3
                have e11 := below_fact hx rfl f4
                have e12 := below_fact hx rfl f5
                have e13 := below_fact hx rfl f6
                go_simp
                try rfl
              go_simp
              refine hK1 _ ?_
              clear hK1 K1
              refine wpPre_i rfl (fun K1 hK1 => ?_)
              rw [if_pos (by go_simp)]
              apply Exists.intro
              refine And.intro (fun wx hx => ?_) ?_
              · go_simp
                try rfl
              go_simp
              refine hK1 _ ?_
              clear hK1 K1
              refine wpPre_i rfl (fun K1 hK1 => ?_)
              rw [if_pos (by go_simp)]
              apply Exists.intro
              refine And.intro (fun wx hx => ?_) ?_
              · go_simp
                try rfl
              go_simp
              refine hK1 _ ?_
              clear hK1 K1
              refine wpPre_i rfl (fun K1 hK1 => ?_)
              rw [if_pos (by go_simp)]
              apply Exists.intro
              refine And.intro (fun wx hx => ?_) ?_
              · go_simp
                try rfl
              go_simp
              refine hK1 _ ?_
              clear hK1 K1
              refine wpPre_i rfl (fun K1 hK1 => ?_)
              rw [if_pos (by go_simp)]
              apply Exists.intro
              refine And.intro (fun wx hx => ?_) ?_
              · go_simp
                try rfl
              go_simp
              refine hK1 _ ?_
              clear hK1 K1
              refine wpPre_i rfl (fun K1 hK1 => ?_)
              rw [if_pos (by go_simp)]
              apply Exists.intro
              refine And.intro (fun wx hx => ?_) ?_
              · go_simp
                try rfl
              go_simp
              refine hK1 _ ?_
              clear hK1 K1
              refine wpPre_i rfl (fun K1 hK1 => ?_)
              rw [if_pos (by go_simp)]
              apply Exists.intro
              refine And.intro (fun wx hx => ?_) ?_
              · go_simp
                try rfl
              go_simp
              refine hK1 _ ?_
              clear hK1 K1
              refine wpPre_i rfl (fun K1 hK1 => ?_)
              rw [if_pos (by go_simp)]
              apply Exists.intro
              refine And.intro (fun wx hx => ?_) ?_
              · have e0 := below_fact hx rfl z0
                have e1 := below_fact hx rfl z1
                have e2 := below_fact hx rfl z2
                have e3 := below_fact hx rfl z3
                have e4 := below_fact hx rfl z4
                have e5 := below_fact hx rfl z5
                have e6 := below_fact hx rfl z6
                have e7 := below_fact hx rfl f0
                have e8 := below_fact hx rfl f1
                have e9 := below_fact hx rfl f2
                have e10 := below_fact hx rfl f3
                have e11 := below_fact hx rfl f4
                have e12 := below_fact hx rfl f5
                have e13 := below_fact hx rfl f6
                go_simp
                try rfl
              go_simp
              refine hK1 _ ?_
              clear hK1 K1
              refine wpPre_nil ?_
              refine wpTr_e rfl (fun K1 hK1 => ?_)
              refine step_callG (by go_simp) 19 #[.tmp 121, .tmp 128] _ rfl Try.f19 Try.func19 (by kernel_rfl) rfl #[.agg #[.int .i64 x.mark, .string x.r.key, .int .i64 x.r.v.kind, .int .i64 x.r.v.int, .string x.r.v.text, .slice x.r.v.p x.r.v.n x.r.v.c, .slice x.r.p x.r.n x.r.c], .agg #[.int .i64 (wa.item j).mark, .string (wa.item j).r.key, .int .i64 (wa.item j).r.v.kind, .int .i64 (wa.item j).r.v.int, .string (wa.item j).r.v.text, .slice (wa.item j).r.v.p (wa.item j).r.v.n (wa.item j).r.v.c, .slice (wa.item j).r.p (wa.item j).r.n (wa.item j).r.c]] rfl _ (HC.out _ (Below.refl _ _).drew.drew) (fun e w9 h9 => ?_)
              obtain ⟨rfl, hb9⟩ := h9
              refine ⟨_, rfl, ?_⟩
              have HSz := hid (LSet.trans HSw.out (LSet.below HSw.out.ln ((Below.refl W.heap.size W).drew.drew.trans hb9)))
              clear hb9
              go_simp
              refine hK1 _ _ (fun h => by cases h) ?_
              clear hK1 K1
              refine wpPre_i rfl (fun K1 hK1 => ?_)
              rw [if_pos (by go_simp)]
              apply Exists.intro
              refine And.intro (fun wx hx => ?_) ?_
              · go_simp
                try rfl
              go_simp
              refine hK1 _ ?_
              clear hK1 K1
              refine wpPre_e rfl rfl (fun K1 hK1 => ?_)
              apply Exists.intro
              refine And.intro (fun wx hx => ?_) ?_
              · go_simp
                try rfl
              go_simp
              refine hK1 _ ?_
              clear hK1 K1
              refine wpPre_nil ?_
              refine wpTr_done ?_
              clear hwj
              go_wp2_with fail
              go_roundw
              case rel => exact ⟨i + 1, _, by omega, by go_num, by have := HN1.out; rw [this]; go_num, HSz.out, HDx.out.2.2⟩
              case measure => simp [intOf]; omega
            · have hz0 : (x.mark == 0) = false := by simp [hx0]
              have hn1 : nR ((rs ++ us).drop i) = nR ((rs ++ us).drop (i + 1)) := by rw [HDx.out.1, ← HDx.out.2.2]; exact nR_cons1 q' hx0
              have HN1 := hid hn1
              clear hx0 hn1
              go_upto_region 29 with fail
              refine wp_region_calmE 30 (fun wx => Below W.heap.size W wx) [(0, true), (1, true), (2, true), (3, true), (4, true), (5, true), (6, false), (7, true), (8, true), (9, true), (10, false), (11, true), (12, true), (13, true), (14, false)] (.one 15 false [(16, true), (17, true), (18, true)] .done) (by kernel_rfl) (by kernel_rfl) (Below.refl _ _).drew ?_
              refine wpPre_e rfl rfl (fun K1 hK1 => ?_)
              apply Exists.intro
              refine And.intro (fun wx hx => ?_) ?_
              · go_simp
                try rfl
              go_simp
              refine hK1 _ ?_
              clear hK1 K1
              refine wpPre_e rfl rfl (fun K1 hK1 => ?_)
              apply Exists.intro
              refine And.intro (fun wx hx => ?_) ?_
              · go_simp
                try rfl
              go_simp
              refine hK1 _ ?_
              clear hK1 K1
              refine wpPre_e rfl rfl (fun K1 hK1 => ?_)
              apply Exists.intro
              refine And.intro (fun wx hx => ?_) ?_
              · go_simp
                try rfl
              go_simp
              refine hK1 _ ?_
              clear hK1 K1
              refine wpPre_e rfl rfl (fun K1 hK1 => ?_)
              apply Exists.intro
              refine And.intro (fun wx hx => ?_) ?_
              · go_simp
                try rfl
              go_simp
              refine hK1 _ ?_
              clear hK1 K1
              refine wpPre_e rfl rfl (fun K1 hK1 => ?_)
              apply Exists.intro
              refine And.intro (fun wx hx => ?_) ?_
              · go_simp
                try rfl
              go_simp
              refine hK1 _ ?_
              clear hK1 K1
              refine wpPre_i rfl (fun K1 hK1 => ?_)
              rw [if_neg (by go_simp; all_goals (intro h; cases h))]
              go_simp
              refine hK1 _ ?_
              clear hK1 K1
              refine wpPre_i rfl (fun K1 hK1 => ?_)
              rw [if_neg (by go_simp; all_goals (intro h; cases h))]
              go_simp
              refine hK1 _ ?_
              clear hK1 K1
              refine wpPre_i rfl (fun K1 hK1 => ?_)
              rw [if_neg (by go_simp; all_goals (intro h; cases h))]
              go_simp
              refine hK1 _ ?_
              clear hK1 K1
              refine wpPre_i rfl (fun K1 hK1 => ?_)
              rw [if_neg (by go_simp; all_goals (intro h; cases h))]
              go_simp
              refine hK1 _ ?_
              clear hK1 K1
              refine wpPre_i rfl (fun K1 hK1 => ?_)
              rw [if_neg (by go_simp; all_goals (intro h; cases h))]
              go_simp
              refine hK1 _ ?_
              clear hK1 K1
              refine wpPre_i rfl (fun K1 hK1 => ?_)
              rw [if_neg (by go_simp; all_goals (intro h; cases h))]
              go_simp
              refine hK1 _ ?_
              clear hK1 K1
              refine wpPre_i rfl (fun K1 hK1 => ?_)
              rw [if_neg (by go_simp; all_goals (intro h; cases h))]
              go_simp
              refine hK1 _ ?_
              clear hK1 K1
              refine wpPre_i rfl (fun K1 hK1 => ?_)
              rw [if_neg (by go_simp; all_goals (intro h; cases h))]
              go_simp
              refine hK1 _ ?_
              clear hK1 K1
              refine wpPre_i rfl (fun K1 hK1 => ?_)
              rw [if_neg (by go_simp; all_goals (intro h; cases h))]
              go_simp
              refine hK1 _ ?_
              clear hK1 K1
              refine wpPre_i rfl (fun K1 hK1 => ?_)
              rw [if_neg (by go_simp; all_goals (intro h; cases h))]
              go_simp
              refine hK1 _ ?_
              clear hK1 K1
              refine wpPre_nil ?_
              refine wpTr_e rfl (fun K1 hK1 => ?_)
              rw [if_neg (by go_simp; all_goals (intro h; cases h))]
              go_simp
              refine hK1 _ _ (fun h => by cases h) ?_
              clear hK1 K1
              refine wpPre_i rfl (fun K1 hK1 => ?_)
              rw [if_neg (by go_simp; all_goals (intro h; cases h))]
              go_simp
              refine hK1 _ ?_
              clear hK1 K1
              refine wpPre_i rfl (fun K1 hK1 => ?_)
              rw [if_neg (by go_simp; all_goals (intro h; cases h))]
              go_simp
              refine hK1 _ ?_
              clear hK1 K1
              refine wpPre_e rfl rfl (fun K1 hK1 => ?_)
              apply Exists.intro
              refine And.intro (fun wx hx => ?_) ?_
              · go_simp
                try rfl
              go_simp
              refine hK1 _ ?_
              clear hK1 K1
              refine wpPre_nil ?_
              refine wpTr_done ?_
              go_upto_region 31 with fail
              have hwj : IntKind.i64.wrap (j : Int) = (j : Int) := by rw [IntKind.wrap_i64]; omega
              refine wp_region_calmE 30 (fun wx => Below W.heap.size W wx) [(0, true), (1, true), (2, true), (3, true), (4, true), (5, false), (6, true), (7, true), (8, true), (9, true), (10, true), (11, true), (12, false)] (.one 13 false [(14, true), (15, true)] .done) (by kernel_rfl) (by kernel_rfl) (Below.refl _ _).drew.drew ?_
              refine wpPre_e rfl rfl (fun K1 hK1 => ?_)
              apply Exists.intro
              refine And.intro (fun wx hx => ?_) ?_
              · go_simp
                try rfl
              go_simp
              refine hK1 _ ?_
              clear hK1 K1
              refine wpPre_e rfl rfl (fun K1 hK1 => ?_)
              apply Exists.intro
              refine And.intro (fun wx hx => ?_) ?_
              · go_simp
                try rfl
              go_simp
              refine hK1 _ ?_
              clear hK1 K1
              refine wpPre_e rfl rfl (fun K1 hK1 => ?_)
              apply Exists.intro
              refine And.intro (fun wx hx => ?_) ?_
              · go_simp
                try rfl
              go_simp
              refine hK1 _ ?_
              clear hK1 K1
              refine wpPre_e rfl rfl (fun K1 hK1 => ?_)
              apply Exists.intro
              refine And.intro (fun wx hx => ?_) ?_
              · go_simp
                try rfl
              go_simp
              refine hK1 _ ?_
              clear hK1 K1
              refine wpPre_e rfl rfl (fun K1 hK1 => ?_)
              apply Exists.intro
              refine And.intro (fun wx hx => ?_) ?_
              · go_simp
                try rfl
              go_simp
              refine hK1 _ ?_
              clear hK1 K1
              refine wpPre_i rfl (fun K1 hK1 => ?_)
              rw [if_pos (by go_simp)]
              apply Exists.intro
              refine And.intro (fun wx hx => ?_) ?_
              · have e0 := below_fact hx rfl z0
                have e1 := below_fact hx rfl z1
                have e2 := below_fact hx rfl z2
                have e3 := below_fact hx rfl z3
                have e4 := below_fact hx rfl z4
                have e5 := below_fact hx rfl z5
                have e6 := below_fact hx rfl z6
                have e7 := below_fact hx rfl f0
                have e8 := below_fact hx rfl f1
                have e9 := below_fact hx rfl f2
                have e10 := below_fact hx rfl f3
                have e11 := below_fact hx rfl f4
                have e12 := below_fact hx rfl f5
                have e13 := below_fact hx rfl f6
                go_simp
                try rfl
              go_simp
              refine hK1 _ ?_
              clear hK1 K1
              refine wpPre_i rfl (fun K1 hK1 => ?_)
              rw [if_pos (by go_simp)]
              apply Exists.intro
              refine And.intro (fun wx hx => ?_) ?_
              · go_simp
                try rfl
              go_simp
              refine hK1 _ ?_
              clear hK1 K1
              refine wpPre_i rfl (fun K1 hK1 => ?_)
              rw [if_pos (by go_simp)]
              apply Exists.intro
              refine And.intro (fun wx hx => ?_) ?_
              · go_simp
                try rfl
              go_simp
              refine hK1 _ ?_
              clear hK1 K1
              refine wpPre_i rfl (fun K1 hK1 => ?_)
              rw [if_pos (by go_simp)]
              apply Exists.intro
              refine And.intro (fun wx hx => ?_) ?_
              · go_simp
                try rfl
              go_simp
              refine hK1 _ ?_
              clear hK1 K1
              refine wpPre_i rfl (fun K1 hK1 => ?_)
              rw [if_pos (by go_simp)]
              apply Exists.intro
              refine And.intro (fun wx hx => ?_) ?_
              · go_simp
                try rfl
              go_simp
              refine hK1 _ ?_
              clear hK1 K1
              refine wpPre_i rfl (fun K1 hK1 => ?_)
              rw [if_pos (by go_simp)]
              apply Exists.intro
              refine And.intro (fun wx hx => ?_) ?_
              · go_simp
                try rfl
              go_simp
              refine hK1 _ ?_
              clear hK1 K1
              refine wpPre_i rfl (fun K1 hK1 => ?_)
              rw [if_pos (by go_simp)]
              apply Exists.intro
              refine And.intro (fun wx hx => ?_) ?_
              · go_simp
                try rfl
              go_simp
              refine hK1 _ ?_
              clear hK1 K1
              refine wpPre_i rfl (fun K1 hK1 => ?_)
              rw [if_pos (by go_simp)]
              apply Exists.intro
              refine And.intro (fun wx hx => ?_) ?_
              · have e0 := below_fact hx rfl z0
                have e1 := below_fact hx rfl z1
                have e2 := below_fact hx rfl z2
                have e3 := below_fact hx rfl z3
                have e4 := below_fact hx rfl z4
                have e5 := below_fact hx rfl z5
                have e6 := below_fact hx rfl z6
                have e7 := below_fact hx rfl f0
                have e8 := below_fact hx rfl f1
                have e9 := below_fact hx rfl f2
                have e10 := below_fact hx rfl f3
                have e11 := below_fact hx rfl f4
                have e12 := below_fact hx rfl f5
                have e13 := below_fact hx rfl f6
                go_simp
                try rfl
              go_simp
              refine hK1 _ ?_
              clear hK1 K1
              refine wpPre_nil ?_
              refine wpTr_e rfl (fun K1 hK1 => ?_)
              refine step_callG (by go_simp) 19 #[.tmp 121, .tmp 128] _ rfl Try.f19 Try.func19 (by kernel_rfl) rfl #[.agg #[.int .i64 x.mark, .string x.r.key, .int .i64 x.r.v.kind, .int .i64 x.r.v.int, .string x.r.v.text, .slice x.r.v.p x.r.v.n x.r.v.c, .slice x.r.p x.r.n x.r.c], .agg #[.int .i64 (wa.item j).mark, .string (wa.item j).r.key, .int .i64 (wa.item j).r.v.kind, .int .i64 (wa.item j).r.v.int, .string (wa.item j).r.v.text, .slice (wa.item j).r.v.p (wa.item j).r.v.n (wa.item j).r.v.c, .slice (wa.item j).r.p (wa.item j).r.n (wa.item j).r.c]] rfl _ (HC.out _ (Below.refl _ _).drew.drew) (fun e w9 h9 => ?_)
              obtain ⟨rfl, hb9⟩ := h9
              refine ⟨_, rfl, ?_⟩
              have HSz := hid (LSet.trans HSw.out (LSet.below HSw.out.ln ((Below.refl W.heap.size W).drew.drew.trans hb9)))
              clear hb9
              go_simp
              refine hK1 _ _ (fun h => by cases h) ?_
              clear hK1 K1
              refine wpPre_i rfl (fun K1 hK1 => ?_)
              rw [if_pos (by go_simp)]
              apply Exists.intro
              refine And.intro (fun wx hx => ?_) ?_
              · go_simp
                try rfl
              go_simp
              refine hK1 _ ?_
              clear hK1 K1
              refine wpPre_e rfl rfl (fun K1 hK1 => ?_)
              apply Exists.intro
              refine And.intro (fun wx hx => ?_) ?_
              · go_simp
                try rfl
              go_simp
              refine hK1 _ ?_
              clear hK1 K1
              refine wpPre_nil ?_
              refine wpTr_done ?_
              clear hwj
              go_wp2_with fail
              go_roundw
              case rel => exact ⟨i + 1, _, by omega, by go_num, by have := HN1.out; rw [this], HSz.out, HDx.out.2.2⟩
              case measure => simp [intOf]; omega
        · obtain rfl : i = f.n + wa.n := by omega
          have hq0 : L4.q = [] := by rw [HQ.out, ← HT.out, ← List.length_append, List.drop_length]
          have hn0 : nR ((rs ++ us).drop (f.n + wa.n)) = 0 := by rw [← HQ.out, hq0]; rfl
          rw [hn0]
          have HTk := hid (take_none wr (fun _ => False) b L4 HS.out.ln hq0)
          clear hlt hn0 HFu
          go_wp2_with fail
          refine HTk.out.mono ?_
          rintro e w7 ⟨rfl, hB7⟩
          obtain ⟨W, hW⟩ : ∃ W, W = w7.alloc (.cells #[.int .i64 0, .string ⟨#[]⟩, .int .i64 0, .int .i64 0, .string ⟨#[]⟩, .slice none 0 0, .slice none 0 0] 35) := ⟨_, rfl⟩
          have hB : Below w7.heap.size w7 W := by rw [hW]; exact (Below.refl _ _).alloc (Nat.le_refl _) _
          have HLw := hid ((HS.out.ln.below hB7).below hB)
          have HCl := hid (close_any W (fun _ => False) b L4 HLw.out (fun _ h => h.elim))
          have HBW : Hid (Below w.heap.size w W) := by
            have h1 := HB6.out.trans (HS.out.but.below HB6.out.size fun k hk e => by have := HC6.out k e; omega)
            have h2 := h1.trans (hB7.mono h1.size)
            exact h2.trans (hB.mono h2.size)
          have HC4 : Hid (∀ k, L4.C b k → w.heap.size ≤ k) := fun k hk => by
            rcases HS.out.c k hk with e | e
            · exact HC6.out k e
            · have := HB6.out.size; omega
          have HW := hid hW
          clear hB7 hB hW HTk
          unfold zI
          go_upto_region 34 with fail
          rw [← HW.out]
          go_wp2_with fail
          refine HCl.out.mono ?_
          rintro e w8 ⟨u8, rfl, _, _, hsh, hbt⟩
          have HRs := hid (refill_shut w8 b L4.room hsh f.p f.n f.c)
          have HB8 := hid (HBW.out.trans (hbt.below HBW.out.size fun k hk e => by have := HC4.out k e; omega))
          clear hsh hbt HCl
          go_wp2_with fail
          refine HRs.out.mono ?_
          rintro e w9 ⟨rfl, hw9⟩
          subst w9
          go_wp2
          exact bodyPost_ret (v := .bool true) (by simp [results, Try.results4, go_sem]) rfl ⟨rfl, HB8.out⟩
end Go.Proofs.Ytbcnlfbclgkeiaa
