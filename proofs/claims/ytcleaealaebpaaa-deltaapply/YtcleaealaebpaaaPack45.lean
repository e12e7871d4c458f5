import Derived.Test.YtcleaealaebpaaaPack44
import Derived.Test.YtcleaealaebpaaaPack0
import Derived.ProofKit
import Derived.OpenShut
import Derived.ChangeOld
import Derived.SizedLaws
import Derived.Deep.DeepHandedRow
import Derived.Deep.Strs
import Derived.Lib.LaidTab
namespace Go.Proofs.Ytcleaealaebpaaa
open Go.RowKit
set_option maxRecDepth 8000

/-- two states in a row -/
def twoS (k : Nat) (an : Int) (a : LT VT) (bn : Int) (b : LT VT) : LT (Int × LT VT) := ⟨some ⟨k, 0, none⟩, 2, 2, fun j => if j = 0 then (an, a) else (bn, b)⟩
theorem twoS_in {W : World} {k : Nat} {an : Int} {a : LT VT} {bn : Int} {b : LT VT} {S : Nat → Prop} (h : Box W k #[.int .i64 an, .slice a.p a.n a.c, .int .i64 bn, .slice b.p b.n b.c] 24) (hb : S k) (ha : elS.In W S (an, a)) (hbb : elS.In W S (bn, b)) : LT.In elS W S (twoS k an a bn b) := by
  refine ⟨fun _ => ⟨k, 0, rfl, hb, h.lt, fun j hj r u hu => ?_⟩, fun j hj => ?_, by show 2 ≤ 2; omega, by show 2 ≤ _; omega, by show 2 ≤ maxLen; simp [maxLen], fun h => by cases h⟩
  · have hj3 : j < 2 := hj
    match j, hj3, r, hu with
    | 0, _, 0, hu => obtain rfl : _ = u := Option.some.inj hu; exact h.cell 0
    | 0, _, 1, hu => obtain rfl : _ = u := Option.some.inj hu; exact h.cell 1
    | 1, _, 0, hu => obtain rfl : _ = u := Option.some.inj hu; exact h.cell 2
    | 1, _, 1, hu => obtain rfl : _ = u := Option.some.inj hu; exact h.cell 3
  · have hj3 : j < 2 := hj
    match j, hj3 with
    | 0, _ => exact ha
    | 1, _ => exact hbb
theorem er_map {α β : Type} (f : α → β) : ∀ (l : List α) (i : Nat), (l.map f).eraseIdx i = (l.eraseIdx i).map f
  | [], _ => rfl
  | _ :: _, 0 => rfl
  | a :: l, i + 1 => by
    show f a :: (l.map f).eraseIdx i = f a :: (l.eraseIdx i).map f
    rw [er_map f l i]
theorem Wo.sz {d u : DT} {i : Nat} (h : Wo d i u) (hd : DSz d) : DSz u := by
  have e1 : u.set.n ≤ d.set.n := by
    rw [← LT.toL_len u.set, h.set, ← LT.toL_len d.set]; exact er_len _ _
  have e2 : u.gone.n ≤ d.gone.n := by
    rw [← LT.toL_len u.gone, h.gone]; exact gtk_len _ _ _
  refine ⟨by have := hd.set; omega, by have := hd.gone; omega, fun j hj => ?_⟩
  have hm := toL_mem u.set hj
  rw [h.set] at hm
  obtain ⟨q, hq, e⟩ := LT.mem_toL ((List.eraseIdx_sublist _ _).subset hm)
  rw [← e]; exact hd.item q hq
theorem Wo.need {w : World} {S : Nat → Prop} {a b : LT VT} {bn : Int} {u d' : DT} {i : Nat} {t : LT VT} (h : Wo u i d') (ha : SOk w S a) (hb : SOk w S b) (hu : Dfd a bn b u) (hi : i < u.set.n + u.gone.n) (ht : Apd a d' t) (hbi : LT.In elCell w S b) : ¬ LsAlk t b := by
  have ecl : d'.set.cl = u.set.cl.eraseIdx i := by
    unfold LT.cl
    rw [h.set, er_map]
  by_cases hs : i < u.set.n
  · refine hu.needS ha hb hs ecl ?_ ht hbi
    rw [h.gone, gtk, if_pos hs]
    exact List.take_of_length_le (by rw [LT.toL_len]; exact Nat.le_refl _)
  · refine hu.needG (i := i - u.set.n) ha hb (by omega) ?_ ?_ ht hbi
    · rw [ecl, List.eraseIdx_of_length_le (by rw [cl_len]; omega)]
    · rw [h.gone, gtk, if_neg hs, List.take_of_length_le (by rw [LT.toL_len]; exact Nat.le_refl _)]
set_option maxHeartbeats 16000000 in
theorem deltaApply_walk (an : Int) (a : LT VT) (bn : Int) (b : LT VT) (w : World) (hn : -9223372036854775808 ≤ an ∧ an ≤ 9223372036854775807) (hm : -9223372036854775808 ≤ bn ∧ bn ≤ 9223372036854775807) (ha : LT.In elCell w (fun b => b < w.heap.size) a) (hb : LT.In elCell w (fun b => b < w.heap.size) b) :
    Calls Try.prog 3 #[.agg #[.int .i64 an, .slice a.p a.n a.c], .agg #[.int .i64 bn, .slice b.p b.n b.c]] w fun r w' => r = .returned (.bool true) ∧ Below w.heap.size w w' := by
  obtain ⟨W, hW⟩ : ∃ V, V = (w.alloc (.cells #[.int .i64 an, .slice a.p a.n a.c] 24)).alloc (.cells #[.int .i64 bn, .slice b.p b.n b.c] 24) := ⟨_, rfl⟩
  have HT : Hid (TwoK w W #[.int .i64 an, .slice a.p a.n a.c] #[.int .i64 bn, .slice b.p b.n b.c] 24) := by rw [hW]; exact TwoK.start _ _ _ _
  have HW := hid hW
  obtain ⟨V, hV⟩ : ∃ V, V = W.alloc (.cells #[.int .i64 an, .slice a.p a.n a.c, .int .i64 bn, .slice b.p b.n b.c] 24) := ⟨_, rfl⟩
  have hBV : Below W.heap.size W V := by rw [hV]; exact (Below.refl _ _).alloc (Nat.le_refl _) _
  have HXQ : Hid (Box V W.heap.size #[.int .i64 an, .slice a.p a.n a.c, .int .i64 bn, .slice b.p b.n b.c] 24) := by rw [hV]; exact Box.new _ _ _
  have HV := hid hV
  have HT1 := hid (HT.out.below hBV)
  have HSz := hid (szStates_any (twoS W.heap.size an a bn b) V (fun b => b < V.heap.size) (twoS_in HXQ.out HXQ.out.lt ⟨hn, (ha.below HT1.out.bel).mono fun b _ h => h⟩ ⟨hm, (hb.below HT1.out.bel).mono fun b _ h => h⟩) (fun b h => h))
  have HA := hid ha
  have HBb := hid hb
  have HN := hid (And.intro hn hm)
  have x0 := HT.out.ba.cell 0
  have x1 := HT.out.ba.cell 1
  have xl := HT.out.ba.lt
  simp at x0 x1
  have y0 := HT.out.bb.cell 0
  have y1 := HT.out.bb.cell 1
  have yl := HT.out.bb.lt
  simp at y0 y1
  clear ha hb hn hm hW hV hBV
  go_enter Try.func3, Try.ntmps3
  go_upto_region 1 with fail
  rw [← HW.out]
  go_wp2_with fail
  rw [← HV.out]
  refine HSz.out.mono ?_
  rintro r w1 ⟨q, rfl, hq, hb1⟩
  have HT1' := hid (HT1.out.below hb1)
  have HQ := hid hq
  clear x0 x1 xl y0 y1 yl hq hb1 HSz HT1 HT HXQ HV HW
  cases q with
  | false =>
    go_wp2
    exact bodyPost_ret (v := .bool true) (by simp [results, Try.results3, go_sem]) rfl ⟨rfl, HT1'.out.bel⟩
  | true =>
    have HZa : Hid (CSz a) := HQ.out (by first | rfl | trivial) 0 (by show 0 < 2; omega)
    have HZb : Hid (CSz b) := HQ.out (by first | rfl | trivial) 1 (by show 1 < 2; omega)
    clear HQ
    go_wp2_with fail
    refine (plain_any w1).mono ?_
    rintro r w2 ⟨rfl, hb2⟩
    have HT2 := hid (HT1'.out.below hb2)
    clear hb2 HT1'
    obtain ⟨cn1, a1, hs1⟩ : ∃ x y, snd an a = (x, y) := ⟨_, _, rfl⟩
    obtain ⟨dn1, b1, hs2⟩ : ∃ x y, snd bn b = (x, y) := ⟨_, _, rfl⟩
    have HCa : Hid (chkState ⟨cn1, a1.p, a1.n, a1.c, a1.item⟩ = 0) := by have := snd_ok an a; rw [hs1] at this; exact this
    have HCb : Hid (chkState ⟨dn1, b1.p, b1.n, b1.c, b1.item⟩ = 0) := by have := snd_ok bn b; rw [hs2] at this; exact this
    have HZa1 : Hid (CSz a1) := by have := snd_sz (k := an) HZa.out; rw [hs1] at this; exact this
    have HZb1 : Hid (CSz b1) := by have := snd_sz (k := bn) HZb.out; rw [hs2] at this; exact this
    have HA1 : Hid (LT.In elCell w (fun b => b < w.heap.size) a1) := by have := snd_in (k := an) HA.out; rw [hs1] at this; exact this
    have HB1 : Hid (LT.In elCell w (fun b => b < w.heap.size) b1) := by have := snd_in (k := bn) HBb.out; rw [hs2] at this; exact this
    have HSa : Hid (∀ X, Below w2.heap.size w2 X → Calls Try.prog 11 #[.agg #[.int .i64 an, .slice a.p a.n a.c]] X fun e w' => e = .returned (.agg #[.int .i64 cn1, .slice a1.p a1.n a1.c]) ∧ Below X.heap.size X w') := fun X hX => by
      have := sound_any an a X (fun b => b < X.heap.size) (((HA.out.below HT2.out.bel).below hX).mono fun b _ h => h) HN.out.1.1 HN.out.1.2 (fun b h => h)
      rw [hs1] at this
      exact this
    have HSb : Hid (∀ X, Below w2.heap.size w2 X → Calls Try.prog 11 #[.agg #[.int .i64 bn, .slice b.p b.n b.c]] X fun e w' => e = .returned (.agg #[.int .i64 dn1, .slice b1.p b1.n b1.c]) ∧ Below X.heap.size X w') := fun X hX => by
      have := sound_any bn b X (fun b => b < X.heap.size) (((HBb.out.below HT2.out.bel).below hX).mono fun b _ h => h) HN.out.2.1 HN.out.2.2 (fun b h => h)
      rw [hs2] at this
      exact this
    clear hs1 hs2 HZa HZb
    have x0 := HT2.out.ba.cell 0
    have x1 := HT2.out.ba.cell 1
    have xl := HT2.out.ba.lt
    simp at x0 x1
    have y0 := HT2.out.bb.cell 0
    have y1 := HT2.out.bb.cell 1
    have yl := HT2.out.bb.lt
    simp at y0 y1
    go_upto_region 5 with fail
    refine wp_region_calmE 30 (fun wx => Below w2.heap.size w2 wx) [(0, false), (2, false)] (.one 1 true [] (.one 3 false [] (.one 4 false [] (.one 5 false [] .done)))) (by kernel_rfl) (by kernel_rfl) (Below.refl _ _).drew ?_
    refine wpPre_e rfl rfl (fun K1 hK1 => ?_)
    apply Exists.intro
    refine And.intro (fun wx hx => ?_) ?_
    · have e0 := below_fact hx rfl x0
      have e1 := below_fact hx rfl x1
      have e2 := below_fact hx rfl y0
      have e3 := below_fact hx rfl y1
      go_simp
      try rfl
    go_simp
    refine hK1 _ ?_
    clear hK1 K1
    refine wpPre_e rfl rfl (fun K1 hK1 => ?_)
    apply Exists.intro
    refine And.intro (fun wx hx => ?_) ?_
    · have e0 := below_fact hx rfl x0
      have e1 := below_fact hx rfl x1
      have e2 := below_fact hx rfl y0
      have e3 := below_fact hx rfl y1
      go_simp
      try rfl
    go_simp
    refine hK1 _ ?_
    clear hK1 K1
    refine wpPre_nil ?_
    refine wpTr_e rfl (fun K1 hK1 => ?_)
    refine step_call rfl 11 #[.tmp 21] _ rfl Try.f11 Try.func11 (by kernel_rfl) rfl #[.agg #[.int .i64 an, .slice a.p a.n a.c]] rfl _ (HSa.out _ (Below.refl _ _).drew) (fun e w3 h3 => ?_)
    obtain ⟨rfl, hb3⟩ := h3
    have HB3 : Hid (Below w2.heap.size w2 w3) := (Below.refl w2.heap.size w2).drew.trans hb3
    clear hb3
    refine ⟨_, rfl, ?_⟩
    go_simp
    refine hK1 _ _ (fun _ => HB3.out) ?_
    clear hK1 K1
    refine wpPre_nil ?_
    refine wpTr_e rfl (fun K1 hK1 => ?_)
    refine step_call rfl 11 #[.tmp 23] _ rfl Try.f11 Try.func11 (by kernel_rfl) rfl #[.agg #[.int .i64 bn, .slice b.p b.n b.c]] rfl _ (HSb.out _ HB3.out) (fun e w4 h4 => ?_)
    obtain ⟨rfl, hb4⟩ := h4
    have HB4 : Hid (Below w2.heap.size w2 w4) := HB3.out.trans (hb4.mono HB3.out.size)
    clear hb4
    refine ⟨_, rfl, ?_⟩
    go_simp
    refine hK1 _ _ (fun h => by cases h) ?_
    clear hK1 K1
    refine wpPre_nil ?_
    have HT4 := hid (HT2.out.below HB4.out)
    have q0 := HT4.out.ba.cell 0
    have q1 := HT4.out.ba.cell 1
    have g0 := HT4.out.ba.frozen 0
    have g1 := HT4.out.ba.frozen 1
    have ql := HT4.out.ba.lt
    simp at q0 q1
    refine wpTr_e rfl (fun K1 hK1 => ?_)
    go_simp
    refine hK1 _ _ (fun h => by cases h) ?_
    clear hK1 K1 q0 q1 g0 g1 ql
    refine wpPre_nil ?_
    have HT5 := hid ((HT4.out.setA 0 (.int .i64 cn1)).setA 1 (.slice a1.p a1.n a1.c))
    have q0 := HT5.out.bb.cell 0
    have q1 := HT5.out.bb.cell 1
    have g0 := HT5.out.bb.frozen 0
    have g1 := HT5.out.bb.frozen 1
    have ql := HT5.out.bb.lt
    simp at q0 q1
    refine wpTr_e rfl (fun K1 hK1 => ?_)
    go_simp
    refine hK1 _ _ (fun h => by cases h) ?_
    clear hK1 K1 q0 q1 g0 g1 ql
    refine wpPre_nil ?_
    refine wpTr_done ?_
    obtain ⟨w5, hw5⟩ : ∃ V, V = ((((w4.setCell ⟨w.heap.size, 0, none⟩ (.int .i64 cn1)).setCell ⟨w.heap.size, 1, none⟩ (.slice a1.p a1.n a1.c)).setCell ⟨w.heap.size + 1, 0, none⟩ (.int .i64 dn1)).setCell ⟨w.heap.size + 1, 1, none⟩ (.slice b1.p b1.n b1.c)) := ⟨_, rfl⟩
    have HT6 : Hid (TwoK w w5 #[.int .i64 cn1, .slice a1.p a1.n a1.c] #[.int .i64 dn1, .slice b1.p b1.n b1.c] 24) := by
      have h := (HT5.out.setB 0 (.int .i64 dn1)).setB 1 (.slice b1.p b1.n b1.c)
      simp at h
      rw [hw5]
      exact h
    have HW5 := hid hw5
    clear x0 x1 xl y0 y1 yl hw5 HT5 HT4 HT2 HB3 HB4 HSa HSb
    go_upto_region 6 with fail
    rw [← HW5.out]
    have HT6B := hid HT6.out.bel
    have HOa : Hid (SOk w5 (fun b => b < w5.heap.size) a1) := SOk.of HCa.out ((HA1.out.below HT6.out.bel).mono fun b _ h => h)
    have HOb : Hid (SOk w5 (fun b => b < w5.heap.size) b1) := SOk.of HCb.out ((HB1.out.below HT6.out.bel).mono fun b _ h => h)
    have HDf := hid (diff_one cn1 a1 dn1 b1 w5 (fun b => b < w5.heap.size) ((HA1.out.below HT6.out.bel).mono fun b _ h => h) ((HB1.out.below HT6.out.bel).mono fun b _ h => h) (fun b h => h) HZa1.out HZb1.out HCa.out HCb.out)
    have x0 := HT6.out.ba.cell 0
    have x1 := HT6.out.ba.cell 1
    have xl := HT6.out.ba.lt
    simp at x0 x1
    have y0 := HT6.out.bb.cell 0
    have y1 := HT6.out.bb.cell 1
    have yl := HT6.out.bb.lt
    simp at y0 y1
    go_wp2_with fail
    refine HDf.out.mono ?_
    rintro r w6 ⟨hb6, u, rfl, hui, hu⟩
    obtain ⟨V6, hV6⟩ : ∃ V, V = w6.alloc (.cells #[.int .i64 u.num, .slice u.set.p u.set.n u.set.c, .slice u.gone.p u.gone.n u.gone.c] 30) := ⟨_, rfl⟩
    have hBV6 : Below w6.heap.size w6 V6 := by rw [hV6]; exact (Below.refl _ _).alloc (Nat.le_refl _) _
    have HXU : Hid (Box V6 w6.heap.size #[.int .i64 u.num, .slice u.set.p u.set.n u.set.c, .slice u.gone.p u.gone.n u.gone.c] 30) := by rw [hV6]; exact Box.new _ _ _
    have HV6 := hid hV6
    have hB6 := hb6.trans (hBV6.mono hb6.size)
    have HT7 := hid (HT6.out.below hB6)
    have HUi := hid ((hui.below hBV6).mono (S' := fun k => k < V6.heap.size) fun b _ h => h)
    have HU := hid hu
    have HUn := hid hu.num
    clear x0 x1 xl y0 y1 yl hb6 hBV6 hB6 hV6 hui hu HDf HT6 HW5
    go_upto_region 7 with fail
    rw [← HV6.out]
    have HCk := hid (checkD_any u V6 (fun k => k < V6.heap.size) HUi.out (fun b h => h))
    rw [HU.out.fit] at HCk
    have u0 := HXU.out.cell 0
    have u1 := HXU.out.cell 1
    have u2 := HXU.out.cell 2
    have ul := HXU.out.lt
    simp at u0 u1 u2
    have y0 := HT7.out.bb.cell 0
    have y1 := HT7.out.bb.cell 1
    have yl := HT7.out.bb.lt
    simp at y0 y1
    go_wp2_with fail
    refine HCk.out.mono ?_
    rintro r w7 ⟨rfl, hb7⟩
    have HT8 := hid (HT7.out.below hb7)
    have HXU8 := hid (HXU.out.below hb7)
    have HUi8 := hid (HUi.out.below hb7)
    clear u0 u1 u2 ul y0 y1 yl hb7 HT7 HXU HUi HCk HV6
    have u0 := HXU8.out.cell 0
    have u1 := HXU8.out.cell 1
    have u2 := HXU8.out.cell 2
    have ul := HXU8.out.lt
    simp at u0 u1 u2
    have y0 := HT8.out.bb.cell 0
    have y1 := HT8.out.bb.cell 1
    have yl := HT8.out.bb.lt
    simp at y0 y1
    have x0 := HT8.out.ba.cell 0
    have x1 := HT8.out.ba.cell 1
    have xl := HT8.out.ba.lt
    simp at x0 x1
    rw [HUn.out] at u0
    go_upto_region 9 with fail
    rw [← HUn.out] at u0
    have HAp0 := hid (apply_one cn1 a1 u w7 (fun k => k < w7.heap.size) ((HA1.out.below HT8.out.bel).mono fun b _ h => h) (by have := (chkState_rise HCa.out).2.2; omega) (by have := (chkState_rise HCa.out).2.2; omega) (HUi8.out.mono fun b _ h => h) (fun k h => h) HZa1.out HU.out.sz)
    go_wp2_with fail
    refine HAp0.out.mono ?_
    rintro r w8 ⟨hb8, vn, v, c, rfl, hvi, hc, hcv, _, _, _⟩
    obtain ⟨V8, hV8⟩ : ∃ V, V = w8.alloc (.cells #[.int .i64 vn, .slice v.p v.n v.c] 24) := ⟨_, rfl⟩
    have hBV8 : Below w8.heap.size w8 V8 := by rw [hV8]; exact (Below.refl _ _).alloc (Nat.le_refl _) _
    have HXV : Hid (Box V8 w8.heap.size #[.int .i64 vn, .slice v.p v.n v.c] 24) := by rw [hV8]; exact Box.new _ _ _
    have HV8 := hid hV8
    have hB8 := hb8.trans (hBV8.mono hb8.size)
    have HT9 := hid (HT8.out.below hB8)
    have HXU9 := hid (HXU8.out.below hB8)
    have HUi9 := hid (HUi8.out.below hB8)
    have HVi := hid (hvi.below hBV8)
    have HLd : Hid (Leads a1 u dn1 b1) := Leads.first HU.out HOa.out HOb.out
    have HAok : Hid (AppOk cn1 a1 u) := by
      refine ⟨HCa.out, HU.out.fit, fun g hg => ?_, ?_⟩
      · rw [HU.out.gone] at hg
        exact ((dGone_mem HOa.out HOb.out g).1 hg).1
      · have h3 : jS a1.cl u.gone.toL u.set.cl = (jS a1.toL u.gone.toL u.set.toL).map cn := jS_cn _ _ _
        have h4 := congrArg List.length HLd.out.lead
        rw [h3, List.length_map, cl_len] at h4
        rw [h4]
        exact (chkState_rise HCb.out).2.1
    have hc0 : c = 0 := by rw [hc, applyE_ok.2 HAok.out]; rfl
    subst hc0
    obtain ⟨rfl, hapd, _⟩ := hcv rfl
    have HSm : Hid (u.num = dn1 ∧ LsAlk v b1) := ⟨HU.out.num, (HLd.out.apply HCa.out (chkState_rise HCb.out).2.1).2 v hapd⟩
    clear u0 u1 u2 ul y0 y1 yl x0 x1 xl hb8 hBV8 hB8 hV8 hvi hc hcv hapd HAp0 HT8 HXU8 HUi8
    go_upto_region 10 with fail
    rw [← HV8.out]
    have HQ1 := hid (yStat u.num dn1 v b1 V8 _ _ HVi.out (HB1.out.below HT9.out.bel))
    have y0 := HT9.out.bb.cell 0
    have y1 := HT9.out.bb.cell 1
    have yl := HT9.out.bb.lt
    simp at y0 y1
    have v0 := HXV.out.cell 0
    have v1 := HXV.out.cell 1
    have vl := HXV.out.lt
    simp at v0 v1
    go_wp2_with fail
    refine HQ1.out.mono ?_
    rintro r w9 ⟨q, rfl, hq, hb9⟩
    obtain rfl : q = true := hq.2 HSm.out
    have HTa := hid (HT9.out.below hb9)
    have HXUa := hid (HXU9.out.below hb9)
    have HUia := hid (HUi9.out.below hb9)
    clear y0 y1 yl v0 v1 vl hq hb9 HQ1 HT9 HXU9 HUi9 HVi HXV HV8 HSm
    have hsn := HU.out.sz.set
    have hgn := HU.out.sz.gone
    go_wp2_with fail
    go_loopw [9] (fun x wr => ∃ i : Nat, i ≤ u.set.n + u.gone.n ∧ x = .int .i64 (i : Int) ∧ Below w9.heap.size w9 wr) (fun x _ => (u.set.n + u.gone.n) - (intOf x).toNat)
    case atStart => exact ⟨0, Nat.zero_le _, rfl, Below.refl _ _⟩
    case round =>
      obtain ⟨i, hi, rfl, hbw⟩ := hrel
      have HBw := hid hbw
      have HTr := hid (HTa.out.below hbw)
      have HXr := hid (HXUa.out.below hbw)
      have HUr := hid (HUia.out.below hbw)
      clear hbw
      have x0 := HTr.out.ba.cell 0
      have x1 := HTr.out.ba.cell 1
      have xl := HTr.out.ba.lt
      simp at x0 x1
      have y0 := HTr.out.bb.cell 0
      have y1 := HTr.out.bb.cell 1
      have yl := HTr.out.bb.lt
      simp at y0 y1
      have u0 := HXr.out.cell 0
      have u1 := HXr.out.cell 1
      have u2 := HXr.out.cell 2
      have ul := HXr.out.lt
      simp at u0 u1 u2
      by_cases hlt : i < u.set.n + u.gone.n
      · have hlt' : (i : Int) < (u.set.n : Int) + (u.gone.n : Int) := by omega
        have HWo : Hid (∀ X, Below wr.heap.size wr X → Calls Try.prog 16 #[.agg #[.int .i64 u.num, .slice u.set.p u.set.n u.set.c, .slice u.gone.p u.gone.n u.gone.c], .int .i64 (i : Int)] X fun e w' => ∃ d' : DT, e = .returned (.agg #[.int .i64 d'.num, .slice d'.set.p d'.set.n d'.set.c, .slice d'.gone.p d'.gone.n d'.gone.c]) ∧ DT.In w' (fun k => k < V6.heap.size ∨ X.heap.size ≤ k) d' ∧ Wo u i d' ∧ Below X.heap.size X w') := fun X hX => without_any u i X (fun k => k < V6.heap.size) (HUr.out.below hX) HU.out.sz (by omega)
        have HAp : Hid (∀ (d' : DT) (X : World), Below wr.heap.size wr X → ∀ {Q : Nat → Prop}, DT.In X Q d' → Wo u i d' → Calls Try.prog 14 #[.agg #[.int .i64 cn1, .slice a1.p a1.n a1.c], .agg #[.int .i64 d'.num, .slice d'.set.p d'.set.n d'.set.c, .slice d'.gone.p d'.gone.n d'.gone.c]] X fun r w' => Below X.heap.size X w' ∧ ∃ (tn : Int) (t : LT VT) (c : Int), r = .returned (.tuple #[.agg #[.int .i64 tn, .slice t.p t.n t.c], .int .i64 c]) ∧ LT.In elCell w' (fun k => X.heap.size ≤ k) t ∧ c = (applyE cn1 a1 d' : Int) ∧ (c = 0 → tn = d'.num ∧ Apd a1 d' t ∧ CSz t) ∧ -9223372036854775808 ≤ tn ∧ tn ≤ 9223372036854775807 ∧ CSz t) := fun d' X hX {Q} hd hw => apply_one cn1 a1 d' X (fun k => k < X.heap.size) (((HA1.out.below HTr.out.bel).below hX).mono fun b _ h => h) (by have := (chkState_rise HCa.out).2.2; omega) (by have := (chkState_rise HCa.out).2.2; omega) (hd.mono fun b _ h => h) (fun k h => h) HZa1.out (hw.sz HU.out.sz)
        go_upto_region 15 with fail
        go_cut [10, 11] (fun s10 s11 wx => ∃ (tn : Int) (t : LT VT) (c : Int) (bz : Nat) (d' : DT), s10 = .pointer (some ⟨bz, 0, none⟩) ∧ s11 = .int .i64 c ∧ Box wx bz #[.int .i64 tn, .slice t.p t.n t.c] 24 ∧ LT.In elCell wx (fun _ => True) t ∧ Wo u i d' ∧ c = (applyE cn1 a1 d' : Int) ∧ (c = 0 → tn = d'.num ∧ Apd a1 d' t ∧ CSz t) ∧ Below wr.heap.size wr wx)
        case first =>
          refine wp_region_calmE 30 (fun wx => Below wr.heap.size wr wx) [(0, false), (1, false), (2, true)] (.two 3 true [] (.two 4 false [(5, true), (6, true), (7, true)] (.one 8 true [] (.one 9 false [(10, true)] .done)) 8 true [] (.one 4 false [(5, true), (6, true), (7, true)] (.one 9 false [(10, true)] .done))) 8 true [] (.one 3 true [] (.one 4 false [(5, true), (6, true), (7, true)] (.one 9 false [(10, true)] .done)))) (by kernel_rfl) (by kernel_rfl) (Below.refl _ _).drew ?_
          refine wpPre_e rfl rfl (fun K1 hK1 => ?_)
          apply Exists.intro
          refine And.intro (fun wx hx => ?_) ?_
          · have e0 := below_fact hx rfl x0
            have e1 := below_fact hx rfl x1
            have e2 := below_fact hx rfl u0
            have e3 := below_fact hx rfl u1
            have e4 := below_fact hx rfl u2
            go_simp
            try rfl
          go_simp
          refine hK1 _ ?_
          clear hK1 K1
          refine wpPre_e rfl rfl (fun K1 hK1 => ?_)
          apply Exists.intro
          refine And.intro (fun wx hx => ?_) ?_
          · have e0 := below_fact hx rfl x0
            have e1 := below_fact hx rfl x1
            have e2 := below_fact hx rfl u0
            have e3 := below_fact hx rfl u1
            have e4 := below_fact hx rfl u2
            go_simp
            try rfl
          go_simp
          refine hK1 _ ?_
          clear hK1 K1
          refine wpPre_e rfl rfl (fun K1 hK1 => ?_)
          apply Exists.intro
          refine And.intro (fun wx hx => ?_) ?_
          · go_simp
            try rfl
          go_simp
          refine hK1 _ ?_
          clear hK1 K1
          refine wpPre_nil ?_
          refine wpTr_two rfl rfl (fun K1 hK1 => ?_) (fun K1 hK1 => ?_)
          · refine step_call rfl 16 #[.tmp 72, .tmp 73] _ rfl Try.f16 Try.func16 (by kernel_rfl) rfl #[.agg #[.int .i64 u.num, .slice u.set.p u.set.n u.set.c, .slice u.gone.p u.gone.n u.gone.c], .int .i64 (i : Int)] rfl _ (HWo.out _ ((Below.refl wr.heap.size wr).drew)) (fun r w1 h1 => ?_)
            obtain ⟨d', rfl, hdi1, hwo1, hb1⟩ := h1
            have HB1 : Hid (Below wr.heap.size wr w1) := ((Below.refl wr.heap.size wr).drew).trans (hb1.mono ((Below.refl wr.heap.size wr).drew).size)
            have HDi1 := hid hdi1
            have HWd1 := hid hwo1
            have HBs1 := hid hb1
            clear hb1 hdi1 hwo1
            refine ⟨_, rfl, ?_⟩
            go_simp
            refine hK1 _ _ (fun _ => HB1.out) ?_
            clear hK1 K1
            refine wpPre_nil ?_
            refine wpTr_two rfl rfl (fun K1 hK1 => ?_) (fun K1 hK1 => ?_)
            · refine step_call rfl 14 #[.tmp 71, .tmp 74] _ rfl Try.f14 Try.func14 (by kernel_rfl) rfl #[.agg #[.int .i64 cn1, .slice a1.p a1.n a1.c], .agg #[.int .i64 d'.num, .slice d'.set.p d'.set.n d'.set.c, .slice d'.gone.p d'.gone.n d'.gone.c]] rfl _ (HAp.out d' _ (HB1.out) (HDi1.out) (HWd1.out)) (fun r w2 h2 => ?_)
              obtain ⟨hb2, tn, t, c, rfl, hti2, hc2, hct2, hz2⟩ := h2
              have HB2 : Hid (Below wr.heap.size wr w2) := (HB1.out).trans (hb2.mono (HB1.out).size)
              have HTi2 := hid hti2
              have HTc2 := hid (And.intro hc2 hct2)
              have HBs2 := hid hb2
              clear hb2 hti2 hc2 hct2 hz2
              refine ⟨_, rfl, ?_⟩
              go_simp
              refine hK1 _ _ (fun h => by cases h) ?_
              clear hK1 K1
              refine wpPre_e rfl rfl (fun K1 hK1 => ?_)
              apply Exists.intro
              refine And.intro (fun wx hx => ?_) ?_
              · go_simp
                try rfl
              go_simp
              refine hK1 _ ?_
              clear hK1 K1
              refine wpPre_e rfl rfl (fun K1 hK1 => ?_)
              apply Exists.intro
              refine And.intro (fun wx hx => ?_) ?_
              · go_simp
                try rfl
              go_simp
              refine hK1 _ ?_
              clear hK1 K1
              refine wpPre_e rfl rfl (fun K1 hK1 => ?_)
              apply Exists.intro
              refine And.intro (fun wx hx => ?_) ?_
              · go_simp
                try rfl
              go_simp
              refine hK1 _ ?_
              clear hK1 K1
              refine wpPre_nil ?_
              refine wpTr_e rfl (fun K1 hK1 => ?_)
              go_simp
              have hb3 : Below w2.heap.size w2 ((w2.alloc (.cells #[.int .i64 0, .slice none 0 0] 24))) := ((Below.refl w2.heap.size w2).alloc (Nat.le_refl _) _)
              have HB3 : Hid (Below wr.heap.size wr ((w2.alloc (.cells #[.int .i64 0, .slice none 0 0] 24)))) := (HB2.out).trans (hb3.mono (HB2.out).size)
              have hx3 : Box ((w2.alloc (.cells #[.int .i64 0, .slice none 0 0] 24))) w2.heap.size #[.int .i64 0, .slice none 0 0] 24 := Box.new _ _ _
              have HX3 := hid hx3
              have HBs3 := hid hb3
              clear hx3 hb3
              refine hK1 _ _ (fun _ => HB3.out) ?_
              clear hK1 K1
              refine wpPre_nil ?_
              refine wpTr_e rfl (fun K1 hK1 => ?_)
              have hz4 := HX3.out
              have q0 := hz4.cell 0
              have q1 := hz4.cell 1
              have g0 := hz4.frozen 0
              have g1 := hz4.frozen 1
              have ql := hz4.lt
              simp at q0 q1
              have HZ4 := hid hz4
              have HBt4 : Hid (But (fun k => k = w2.heap.size) ((w2.alloc (.cells #[.int .i64 0, .slice none 0 0] 24))) ((((w2.alloc (.cells #[.int .i64 0, .slice none 0 0] 24))).setCell ⟨w2.heap.size, 0, none⟩ (.int .i64 tn)).setCell ⟨w2.heap.size, 1, none⟩ (.slice t.p t.n t.c))) := ((But.one _ _).setAt 0 _).setAt 1 _
              clear hz4
              go_simp
              refine hK1 _ _ (fun h => by cases h) ?_
              clear hK1 K1 q0 q1 g0 g1 ql
              refine wpPre_e rfl rfl (fun K1 hK1 => ?_)
              apply Exists.intro
              refine And.intro (fun wx hx => ?_) ?_
              · go_simp
                try rfl
              go_simp
              refine hK1 _ ?_
              clear hK1 K1
              refine wpPre_nil ?_
              refine wpTr_done ?_
              go_wp2_with fail
              go_meet
              exact ⟨tn, t, c, w2.heap.size, d', rfl, rfl, Box.new _ _ _, (((HTi2.out).below ((Below.refl _ _).alloc (Nat.le_refl _) _)).mono (S' := fun _ => True) fun _ _ _ => trivial), HWd1.out, HTc2.out.1, HTc2.out.2, (HB2.out).trans (((Below.refl _ _).alloc (Nat.le_refl _) _).mono (HB2.out).size)⟩
            · go_simp
              have hb5 : Below w1.heap.size w1 ((w1.alloc (.cells #[.int .i64 0, .slice none 0 0] 24))) := ((Below.refl w1.heap.size w1).alloc (Nat.le_refl _) _)
              have HB5 : Hid (Below wr.heap.size wr ((w1.alloc (.cells #[.int .i64 0, .slice none 0 0] 24)))) := (HB1.out).trans (hb5.mono (HB1.out).size)
              have hx5 : Box ((w1.alloc (.cells #[.int .i64 0, .slice none 0 0] 24))) w1.heap.size #[.int .i64 0, .slice none 0 0] 24 := Box.new _ _ _
              have HX5 := hid hx5
              have HBs5 := hid hb5
              clear hx5 hb5
              refine hK1 _ _ (fun _ => HB5.out) ?_
              clear hK1 K1
              refine wpPre_nil ?_
              refine wpTr_e rfl (fun K1 hK1 => ?_)
              refine step_call rfl 14 #[.tmp 71, .tmp 74] _ rfl Try.f14 Try.func14 (by kernel_rfl) rfl #[.agg #[.int .i64 cn1, .slice a1.p a1.n a1.c], .agg #[.int .i64 d'.num, .slice d'.set.p d'.set.n d'.set.c, .slice d'.gone.p d'.gone.n d'.gone.c]] rfl _ (HAp.out d' _ (HB5.out) ((HDi1.out).below HBs5.out) (HWd1.out)) (fun r w6 h6 => ?_)
              obtain ⟨hb6, tn, t, c, rfl, hti6, hc6, hct6, hz6⟩ := h6
              have HB6 : Hid (Below wr.heap.size wr w6) := (HB5.out).trans (hb6.mono (HB5.out).size)
              have HTi6 := hid hti6
              have HTc6 := hid (And.intro hc6 hct6)
              have HBs6 := hid hb6
              clear hb6 hti6 hc6 hct6 hz6
              refine ⟨_, rfl, ?_⟩
              go_simp
              refine hK1 _ _ (fun h => by cases h) ?_
              clear hK1 K1
              refine wpPre_e rfl rfl (fun K1 hK1 => ?_)
              apply Exists.intro
              refine And.intro (fun wx hx => ?_) ?_
              · go_simp
                try rfl
              go_simp
              refine hK1 _ ?_
              clear hK1 K1
              refine wpPre_e rfl rfl (fun K1 hK1 => ?_)
              apply Exists.intro
              refine And.intro (fun wx hx => ?_) ?_
              · go_simp
                try rfl
              go_simp
              refine hK1 _ ?_
              clear hK1 K1
              refine wpPre_e rfl rfl (fun K1 hK1 => ?_)
              apply Exists.intro
              refine And.intro (fun wx hx => ?_) ?_
              · go_simp
                try rfl
              go_simp
              refine hK1 _ ?_
              clear hK1 K1
              refine wpPre_nil ?_
              refine wpTr_e rfl (fun K1 hK1 => ?_)
              have hz7 := (HX5.out).below HBs6.out
              have q0 := hz7.cell 0
              have q1 := hz7.cell 1
              have g0 := hz7.frozen 0
              have g1 := hz7.frozen 1
              have ql := hz7.lt
              simp at q0 q1
              have HZ7 := hid hz7
              have HBt7 : Hid (But (fun k => k = w1.heap.size) w6 ((w6.setCell ⟨w1.heap.size, 0, none⟩ (.int .i64 tn)).setCell ⟨w1.heap.size, 1, none⟩ (.slice t.p t.n t.c))) := ((But.one _ _).setAt 0 _).setAt 1 _
              clear hz7
              go_simp
              refine hK1 _ _ (fun h => by cases h) ?_
              clear hK1 K1 q0 q1 g0 g1 ql
              refine wpPre_e rfl rfl (fun K1 hK1 => ?_)
              apply Exists.intro
              refine And.intro (fun wx hx => ?_) ?_
              · go_simp
                try rfl
              go_simp
              refine hK1 _ ?_
              clear hK1 K1
              refine wpPre_nil ?_
              refine wpTr_done ?_
              go_wp2_with fail
              go_meet
              exact ⟨tn, t, c, w1.heap.size, d', rfl, rfl, by simpa using (HZ7.out.set 0 (.int .i64 tn)).set 1 (.slice t.p t.n t.c), (((HTi6.out).but HBt7.out (fun k hk _ e => absurd (e ▸ hk : ((w1.alloc (.cells #[.int .i64 0, .slice none 0 0] 24))).heap.size ≤ w1.heap.size) (by have := (HX5.out).lt; omega))).mono (S' := fun _ => True) fun _ _ _ => trivial), HWd1.out, HTc6.out.1, HTc6.out.2, (HB6.out).trans (HBt7.out.below (HB6.out).size fun k hk => by have := (HB1.out).size; omega)⟩
          · go_simp
            have hb8 : Below wr.heap.size wr ((wr.alloc (.cells #[.int .i64 0, .slice none 0 0] 24)).drew) := ((Below.refl wr.heap.size wr).alloc (Nat.le_refl _) _).drew
            have HB8 : Hid (Below wr.heap.size wr ((wr.alloc (.cells #[.int .i64 0, .slice none 0 0] 24)).drew)) := hb8
            have hx8 : Box ((wr.alloc (.cells #[.int .i64 0, .slice none 0 0] 24)).drew) wr.heap.size #[.int .i64 0, .slice none 0 0] 24 := (Box.new _ _ _).below (Below.refl _ _).drew
            have HX8 := hid hx8
            have HBs8 := hid hb8
            clear hx8 hb8
            refine hK1 _ _ (fun _ => HB8.out) ?_
            clear hK1 K1
            refine wpPre_nil ?_
            refine wpTr_e rfl (fun K1 hK1 => ?_)
            refine step_call rfl 16 #[.tmp 72, .tmp 73] _ rfl Try.f16 Try.func16 (by kernel_rfl) rfl #[.agg #[.int .i64 u.num, .slice u.set.p u.set.n u.set.c, .slice u.gone.p u.gone.n u.gone.c], .int .i64 (i : Int)] rfl _ (HWo.out _ (HB8.out)) (fun r w9 h9 => ?_)
            obtain ⟨d', rfl, hdi9, hwo9, hb9⟩ := h9
            have HB9 : Hid (Below wr.heap.size wr w9) := (HB8.out).trans (hb9.mono (HB8.out).size)
            have HDi9 := hid hdi9
            have HWd9 := hid hwo9
            have HBs9 := hid hb9
            clear hb9 hdi9 hwo9
            refine ⟨_, rfl, ?_⟩
            go_simp
            refine hK1 _ _ (fun _ => HB9.out) ?_
            clear hK1 K1
            refine wpPre_nil ?_
            refine wpTr_e rfl (fun K1 hK1 => ?_)
            refine step_call rfl 14 #[.tmp 71, .tmp 74] _ rfl Try.f14 Try.func14 (by kernel_rfl) rfl #[.agg #[.int .i64 cn1, .slice a1.p a1.n a1.c], .agg #[.int .i64 d'.num, .slice d'.set.p d'.set.n d'.set.c, .slice d'.gone.p d'.gone.n d'.gone.c]] rfl _ (HAp.out d' _ (HB9.out) (HDi9.out) (HWd9.out)) (fun r w10 h10 => ?_)
            obtain ⟨hb10, tn, t, c, rfl, hti10, hc10, hct10, hz10⟩ := h10
            have HB10 : Hid (Below wr.heap.size wr w10) := (HB9.out).trans (hb10.mono (HB9.out).size)
            have HTi10 := hid hti10
            have HTc10 := hid (And.intro hc10 hct10)
            have HBs10 := hid hb10
            clear hb10 hti10 hc10 hct10 hz10
            refine ⟨_, rfl, ?_⟩
            go_simp
            refine hK1 _ _ (fun h => by cases h) ?_
            clear hK1 K1
            refine wpPre_e rfl rfl (fun K1 hK1 => ?_)
            apply Exists.intro
            refine And.intro (fun wx hx => ?_) ?_
            · go_simp
              try rfl
            go_simp
            refine hK1 _ ?_
            clear hK1 K1
            refine wpPre_e rfl rfl (fun K1 hK1 => ?_)
            apply Exists.intro
            refine And.intro (fun wx hx => ?_) ?_
            · go_simp
              try rfl
            go_simp
            refine hK1 _ ?_
            clear hK1 K1
            refine wpPre_e rfl rfl (fun K1 hK1 => ?_)
            apply Exists.intro
            refine And.intro (fun wx hx => ?_) ?_
            · go_simp
              try rfl
            go_simp
            refine hK1 _ ?_
            clear hK1 K1
            refine wpPre_nil ?_
            refine wpTr_e rfl (fun K1 hK1 => ?_)
            have hz11 := ((HX8.out).below HBs9.out).below HBs10.out
            have q0 := hz11.cell 0
            have q1 := hz11.cell 1
            have g0 := hz11.frozen 0
            have g1 := hz11.frozen 1
            have ql := hz11.lt
            simp at q0 q1
            have HZ11 := hid hz11
            have HBt11 : Hid (But (fun k => k = wr.heap.size) w10 ((w10.setCell ⟨wr.heap.size, 0, none⟩ (.int .i64 tn)).setCell ⟨wr.heap.size, 1, none⟩ (.slice t.p t.n t.c))) := ((But.one _ _).setAt 0 _).setAt 1 _
            clear hz11
            go_simp
            refine hK1 _ _ (fun h => by cases h) ?_
            clear hK1 K1 q0 q1 g0 g1 ql
            refine wpPre_e rfl rfl (fun K1 hK1 => ?_)
            apply Exists.intro
            refine And.intro (fun wx hx => ?_) ?_
            · go_simp
              try rfl
            go_simp
            refine hK1 _ ?_
            clear hK1 K1
            refine wpPre_nil ?_
            refine wpTr_done ?_
            go_wp2_with fail
            go_meet
            exact ⟨tn, t, c, wr.heap.size, d', rfl, rfl, by simpa using (HZ11.out.set 0 (.int .i64 tn)).set 1 (.slice t.p t.n t.c), (((HTi10.out).but HBt11.out (fun k hk _ e => absurd (e ▸ hk : w9.heap.size ≤ wr.heap.size) (by have := ((HX8.out).below HBs9.out).lt; omega))).mono (S' := fun _ => True) fun _ _ _ => trivial), HWd9.out, HTc10.out.1, HTc10.out.2, (HB10.out).trans (HBt11.out.below (HB10.out).size fun k hk => by have := Nat.le_refl wr.heap.size; omega)⟩
        case rest =>
          obtain ⟨tn, t, c, bz, d', rfl, rfl, hbx, hti, hwo, hc, hct, hbel⟩ := hcut
          have HTq := hid (HTr.out.below hbel)
          have HBq := hid (HBw.out.trans (hbel.mono HBw.out.size))
          have HWd := hid (And.intro hwo (And.intro hc hct))
          have HTi := hid hti
          have HXT := hid hbx
          clear x0 x1 xl y0 y1 yl u0 u1 u2 ul hbx hti hwo hc hct hbel
          have y0 := HTq.out.bb.cell 0
          have y1 := HTq.out.bb.cell 1
          have yl := HTq.out.bb.lt
          simp at y0 y1
          have t0 := HXT.out.cell 0
          have t1 := HXT.out.cell 1
          have tl := HXT.out.lt
          simp at t0 t1
          by_cases hc : c = 0
          · subst hc
            have HNo : Hid (¬ (tn = dn1 ∧ LsAlk t b1)) := fun h => (HWd.out.1.need HOa.out HOb.out HU.out hlt (HWd.out.2.2 rfl).2.1 ((HB1.out.below HT6B.out).mono fun b _ h => h)) h.2
            have HQ2 := hid (yStat tn dn1 t b1 _ _ _ HTi.out (HB1.out.below HTq.out.bel))
            go_wp2_with fail
            refine HQ2.out.mono ?_
            rintro r wy ⟨q, rfl, hq, hby⟩
            obtain rfl : q = false := Bool.eq_false_iff.2 fun h => HNo.out (hq.1 h)
            have HBy := hid (HBq.out.trans (hby.mono HBq.out.size))
            clear hq hby
            go_wp2
            go_roundw
            case rel => exact ⟨i + 1, by omega, by go_num, HBy.out⟩
            case measure => simp [intOf]; omega
          · have hc' : (c == 0) = false := by simp [hc]
            go_wp2
            go_roundw
            case rel => exact ⟨i + 1, by omega, by go_num, HBq.out⟩
            case measure => simp [intOf]; omega
      · have hlt' : ¬ (i : Int) < (u.set.n : Int) + (u.gone.n : Int) := by omega
        go_upto_region 18 with fail
        have HDs := hid (diff_one cn1 a1 cn1 a1 wr (fun b => b < wr.heap.size) ((HA1.out.below HTr.out.bel).mono fun b _ h => h) ((HA1.out.below HTr.out.bel).mono fun b _ h => h) (fun b h => h) HZa1.out HZa1.out HCa.out HCa.out)
        go_wp2_with fail
        refine HDs.out.mono ?_
        rintro r wz ⟨hbz, n, rfl, hni, hnd⟩
        obtain ⟨V9, hV9⟩ : ∃ V, V = wz.alloc (.cells #[.int .i64 n.num, .slice n.set.p n.set.n n.set.c, .slice n.gone.p n.gone.n n.gone.c] 30) := ⟨_, rfl⟩
        have hBV9 : Below wz.heap.size wz V9 := by rw [hV9]; exact (Below.refl _ _).alloc (Nat.le_refl _) _
        have HXN : Hid (Box V9 wz.heap.size #[.int .i64 n.num, .slice n.set.p n.set.n n.set.c, .slice n.gone.p n.gone.n n.gone.c] 30) := by rw [hV9]; exact Box.new _ _ _
        have HV9 := hid hV9
        have hB9 := hbz.trans (hBV9.mono hbz.size)
        have HTz := hid (HTr.out.below hB9)
        have HNi := hid (hni.below hBV9)
        have HNd := hid hnd
        clear x0 x1 xl y0 y1 yl u0 u1 u2 ul hbz hBV9 hB9 hV9 hni hnd HDs
        go_upto_region 19 with fail
        rw [← HV9.out]
        have HQ3 : Hid (Calls Try.prog 17 #[.agg #[.int .i64 n.num, .slice n.set.p n.set.n n.set.c, .slice n.gone.p n.gone.n n.gone.c], .agg #[.int .i64 cn1, .slice none 0 0, .slice none 0 0]] V9 fun e w' => YesNo (DAlk n ⟨cn1, nL, ⟨none, 0, 0, fun _ => ⟨#[]⟩⟩⟩) e V9 w') :=
          yDelta n ⟨cn1, nL, ⟨none, 0, 0, fun _ => ⟨#[]⟩⟩⟩ V9 _ _ HNi.out ⟨nL_in _ (fun _ => True), LT.In.none_ _ _ _ none 0 _ (Nat.zero_le _) (fun _ => rfl), by have := (chkState_rise HCa.out).2.2; show _ ≤ cn1; omega, by have := (chkState_rise HCa.out).2.2; show cn1 ≤ _; omega⟩
        have HY : Hid (DAlk n ⟨cn1, nL, ⟨none, 0, 0, fun _ => ⟨#[]⟩⟩⟩) := by
          have hse := diff_self HOa.out
          have e1 : n.set.n = 0 := by
            have := congrArg List.length HNd.out.set
            rw [hse.1] at this
            simpa [DT.nS, LT.toL_len] using this
          have e2 : n.gone.n = 0 := by
            have := congrArg List.length HNd.out.gone
            rw [hse.2] at this
            simpa [LT.toL_len] using this
          exact ⟨HNd.out.num, ⟨e1.symm, fun j hj => absurd hj (by omega)⟩, e2.symm, fun j hj => absurd hj (by omega)⟩
        have x0 := HTz.out.ba.cell 0
        have x1 := HTz.out.ba.cell 1
        have xl := HTz.out.ba.lt
        simp at x0 x1
        have n0 := HXN.out.cell 0
        have n1 := HXN.out.cell 1
        have n2 := HXN.out.cell 2
        have nl := HXN.out.lt
        simp at n0 n1 n2
        go_wp2_with fail
        refine HQ3.out.mono ?_
        rintro r wq ⟨q, rfl, hq, hbq⟩
        obtain rfl : q = true := hq.2 HY.out
        have HBz := hid (HTz.out.bel.trans (hbq.mono HTz.out.bel.size))
        clear hq hbq
        go_wp2
        exact bodyPost_ret (v := .bool true) (by simp [results, Try.results3, go_sem]) rfl ⟨rfl, HBz.out⟩
end Go.Proofs.Ytcleaealaebpaaa

namespace Go.Proofs.Ytcleaealaebpaaa
open Go.ChangeShapes Go.WideShapes Go.ChangeAt Go.RowKit
set_option maxRecDepth 8000

theorem own : ownKnob Try.prog.godebug = none := by kernel_rfl
theorem laidOut : laidOutB Try.prog = true := by kernel_rfl
theorem cell_lt {w : World} {a : Addr} {v : Value} (h : w.cell? a = some v) : a.block < w.heap.size := by
  rcases Nat.lt_or_ge a.block w.heap.size with h1 | h1
  · exact h1
  · simp [World.cell?, Array.getElem?_eq_none h1] at h
theorem cellsV : Try.prog.cellsOf 60 = 4 := by kernel_rfl
theorem bytesV : Try.prog.bytesOf 60 = 56 := by kernel_rfl
theorem cellsVs : Try.prog.cellsOf 58 = 1 := by kernel_rfl
theorem cellsI3 : Try.prog.cellsOf 3 = 1 := by kernel_rfl
theorem cellsI2 : Try.prog.cellsOf 2 = 1 := by kernel_rfl
theorem cellsStr : Try.prog.cellsOf 9 = 1 := by kernel_rfl

theorem mem_weightsAll {H : Type} {P : Program} {e : TypeId} : ∀ {l : List (DataW H)} {d : DataW H} {n : Nat}, d ∈ l → n ∈ d.weights P e → n ∈ DataW.weightsAll P e l
  | [], _, _, h, _ => by cases h
  | x :: r, d, n, h, hn => by
    simp only [DataW.weightsAll, List.mem_append]
    rcases List.mem_cons.1 h with rfl | h
    · exact .inl hn
    · exact .inr (mem_weightsAll h hn)

theorem open_val {H : Type} {enc : TypeId × Value → H} {W : World} : ∀ (N fuel : Nat) (cs : List Value) (x : DataW H × List MemPlace), fuel ≤ N →
    DataW.trod enc Try.prog W 0 (fun _ => true) true fuel 60 cs = some x → (∀ n ∈ x.1.weights Try.prog 60, n ≤ reachBytes) → ∃ t : VT, cs = t.cells ∧ VT.In W (fun b => b < W.heap.size) t := by
  intro N
  induction N with
  | zero =>
    intro fuel cs x hf h
    obtain rfl : fuel = 0 := by omega
    simp [DataW.trod] at h
  | succ N ih =>
    intro fuel cs x hf h hw
    obtain ⟨xs, n, rfl, rfl, hlen, hxl, hfs⟩ := DataW.trod_struct Try.underlying60 h
    rw [cellsV] at hlen
    match xs, hxl with
    | [y0, y1, y2, y3], _ =>
    match cs, hlen with
    | [v0, v1, v2, v3], _ =>
    have g0 := hfs 0 _ rfl
    have g1 := hfs 1 _ rfl
    have g2 := hfs 2 _ rfl
    have g3 := hfs 3 _ rfl
    simp [cellsI3, cellsI2, cellsStr, cellsVs] at g0 g1 g2 g3
    obtain ⟨k, hk, _, wk⟩ := DataW.trod_int Try.underlying3 g0
    obtain ⟨i, hi, _, wi⟩ := DataW.trod_int Try.underlying2 g1
    obtain ⟨s, hs, hy2, _⟩ := DataW.trod_string Try.underlying9 g2
    have bk := bounds_i64 wk
    have bi := bounds_i64 wi
    simp at hk hi hs
    subst hk hi hs
    have hws : s.size ≤ 140737488355328 := by
      have hm := hw s.data.toList.length (by
        rw [hy2]
        simp [DataW.weights, DataW.weightsEach, Try.underlying60])
      unfold reachBytes at hm
      have e : s.data.toList.length = s.size := by simp
      omega
    have hwi : ∀ m ∈ y3.1.weights Try.prog 58, m ≤ reachBytes := fun m hm => hw m (by
      simp only [DataW.weights, Try.underlying60, List.map, DataW.weightsEach, List.mem_append]
      exact .inr (.inr (.inr (.inl hm))))
    rcases DataW.trod_slice Try.underlying58 g3 with ⟨hc, _⟩ | ⟨a, len, cap, elems, rest, m, hm, hc, hx, hb, hl, hcm, hel, hcell, hsp, _⟩
    · simp at hc
      subst hc
      refine ⟨.mk k i s 0 none 0 (fun _ => .nil), rfl, ⟨⟨bk.1, bk.2, bi.1, bi.2, hws, Nat.le_refl 0, by show 0 ≤ 140737488355328; omega, Nat.zero_le _, fun _ => ⟨rfl, rfl⟩⟩, fun h => absurd h (by omega), fun j hj => absurd hj (by omega)⟩⟩
    · simp at hc
      subst hc
      have hrest : rest.length = cap - len := (hsp rfl).1
      rw [hx] at hwi
      simp only [DataW.weights, Try.underlying58, List.mem_cons, List.mem_append, List.length_map] at hwi
      have hcb : cap * 56 ≤ reachBytes := by
        have := hwi _ (.inl rfl)
        rw [bytesV] at this
        rw [hel, hrest, show len + (cap - len) = cap by omega] at this
        exact this
      unfold reachBytes at hcb
      have each : ∀ j, j < len → ∃ t : VT, (∀ r, r < 4 → W.cell? (a.add (j * 4 + r)) = t.cells[r]?) ∧ VT.In W (fun b => b < W.heap.size) t := by
        intro j hj
        have h1 := hcell j hj
        have hje : j < elems.length := by omega
        rw [List.getElem?_eq_getElem hje, cellsV] at h1
        obtain ⟨cs', hcs, htr⟩ := Option.bind_eq_some_iff.1 h1
        obtain ⟨t, rfl, hin⟩ := ih m cs' elems[j] (by omega) htr (fun q hq => hwi q (.inr (.inl (mem_weightsAll (d := elems[j].1) (List.mem_map.2 ⟨elems[j], List.getElem_mem hje, rfl⟩) hq))))
        obtain ⟨_, hln, hcc⟩ := World.cells?_some hcs
        refine ⟨t, fun r hr => ?_, hin⟩
        have := hcc r (by omega)
        rw [Go.Deep.add_add] at this
        exact this
      have : Inhabited VT := ⟨.nil⟩
      obtain ⟨F, hF⟩ := Go.Deep.choose_lt each
      refine ⟨.mk k i s len (some a) cap F, rfl, ⟨⟨bk.1, bk.2, bi.1, bi.2, hws, hl, ?_, hcm, fun h => by cases h⟩, fun hp => ?_, fun j hj => (hF j hj).2⟩⟩
      · show len ≤ 140737488355328; omega
      · obtain ⟨b, o, spot⟩ := a
        have f0 := (hF 0 hp).1 0 (by omega)
        have hspot : spot = none := by simpa [Addr.add] using World.cell?_spot f0
        subst hspot
        have hbl : b < W.heap.size := by have := cell_lt f0; simpa [Addr.add] using this
        refine ⟨b, o, rfl, hbl, hbl, fun j hj => ?_⟩
        have f := (hF j hj).1
        have q0 := f 0 (by omega)
        have q1 := f 1 (by omega)
        have q2 := f 2 (by omega)
        have q3 := f 3 (by omega)
        rw [add_plain] at q0 q1 q2 q3
        exact ⟨q0, q1, q2, q3⟩
/-- WHAT A VALUE THAT CAME IN IS -/
theorem open_value {H : Type} {enc : TypeId × Value → H} {W : World} {v : Value} {d : DataW H} {p : List MemPlace}
    (hd : DataW.Trod enc Try.prog W 0 (fun _ => true) true 60 v d p) (hw : ∀ n ∈ d.weights Try.prog 60, n ≤ reachBytes) :
    ∃ t : VT, v = t.val ∧ VT.In W (fun b => b < W.heap.size) t := by
  obtain ⟨fuel, hf⟩ := hd
  obtain ⟨t, hc, hin⟩ := open_val fuel fuel _ _ (Nat.le_refl _) hf hw
  refine ⟨t, ?_, hin⟩
  cases v with
  | agg cs =>
    have h2 : cs.toList = t.cells := hc
    obtain ⟨l⟩ := cs
    simp only at h2
    rw [h2]; rfl
  | _ => simp [Value.cells, VT.cells] at hc
end Go.Proofs.Ytcleaealaebpaaa
