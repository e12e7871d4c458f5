import Derived.Test.YtckopbkhpbhljaaPack38
import Derived.Test.YtckopbkhpbhljaaPack33
namespace Go.Proofs.Ytckopbkhpbhljaa
open Go.RowKit
set_option maxRecDepth 8000

structure TriS (w w' : World) (sn : Int) (s : LT VT) (d e : DT) : Prop where
  b0 : Box w' w.heap.size #[.int .i64 sn, .slice s.p s.n s.c] 24
  b1 : Box w' (w.heap.size + 1) #[.int .i64 d.num, .slice d.set.p d.set.n d.set.c, .slice d.gone.p d.gone.n d.gone.c] 30
  b2 : Box w' (w.heap.size + 2) #[.int .i64 e.num, .slice e.set.p e.set.n e.set.c, .slice e.gone.p e.gone.n e.gone.c] 30
  bel : Below w.heap.size w w'
theorem TriS.start (w : World) (sn : Int) (s : LT VT) (d e : DT) : TriS w (((w.alloc (.cells #[.int .i64 sn, .slice s.p s.n s.c] 24)).alloc (.cells #[.int .i64 d.num, .slice d.set.p d.set.n d.set.c, .slice d.gone.p d.gone.n d.gone.c] 30)).alloc (.cells #[.int .i64 e.num, .slice e.set.p e.set.n e.set.c, .slice e.gone.p e.gone.n e.gone.c] 30)) sn s d e := by
  refine ⟨((Box.new w _ _).below ((Below.refl _ _).alloc (Nat.le_refl _) _)).below ((Below.refl _ _).alloc (Nat.le_refl _) _), ?_, ?_, (((Below.refl _ _).alloc (Nat.le_refl _) _).alloc (by simp) _).alloc (by simp; omega) _⟩
  · have h := Box.new (w.alloc (.cells #[.int .i64 sn, .slice s.p s.n s.c] 24)) #[.int .i64 d.num, .slice d.set.p d.set.n d.set.c, .slice d.gone.p d.gone.n d.gone.c] 30
    rw [show (w.alloc (.cells #[.int .i64 sn, .slice s.p s.n s.c] 24)).heap.size = w.heap.size + 1 by simp] at h
    exact h.below ((Below.refl _ _).alloc (Nat.le_refl _) _)
  · have h := Box.new ((w.alloc (.cells #[.int .i64 sn, .slice s.p s.n s.c] 24)).alloc (.cells #[.int .i64 d.num, .slice d.set.p d.set.n d.set.c, .slice d.gone.p d.gone.n d.gone.c] 30)) #[.int .i64 e.num, .slice e.set.p e.set.n e.set.c, .slice e.gone.p e.gone.n e.gone.c] 30
    rw [show ((w.alloc (.cells #[.int .i64 sn, .slice s.p s.n s.c] 24)).alloc (.cells #[.int .i64 d.num, .slice d.set.p d.set.n d.set.c, .slice d.gone.p d.gone.n d.gone.c] 30)).heap.size = w.heap.size + 2 by simp] at h
    exact h
theorem TriS.below {w w1 w2 : World} {sn : Int} {s : LT VT} {d e : DT} (h : TriS w w1 sn s d e) (hb : Below w1.heap.size w1 w2) : TriS w w2 sn s d e := ⟨h.b0.below hb, h.b1.below hb, h.b2.below hb, h.bel.trans (hb.mono h.bel.size)⟩
set_option maxHeartbeats 8000000 in
theorem deltaJoin_walk (sn : Int) (s : LT VT) (d e : DT) (w : World) (hn : -9223372036854775808 ≤ sn ∧ sn ≤ 9223372036854775807) (hs : LT.In elCell w (fun b => b < w.heap.size) s) (hd : DT.In w (fun b => b < w.heap.size) d) (he : DT.In w (fun b => b < w.heap.size) e) :
    Calls Try.prog 4 #[.agg #[.int .i64 sn, .slice s.p s.n s.c], .agg #[.int .i64 d.num, .slice d.set.p d.set.n d.set.c, .slice d.gone.p d.gone.n d.gone.c], .agg #[.int .i64 e.num, .slice e.set.p e.set.n e.set.c, .slice e.gone.p e.gone.n e.gone.c]] w fun r w' => r = .returned (.bool true) ∧ Below w.heap.size w w' := by
  obtain ⟨W, hW⟩ : ∃ V, V = ((w.alloc (.cells #[.int .i64 sn, .slice s.p s.n s.c] 24)).alloc (.cells #[.int .i64 d.num, .slice d.set.p d.set.n d.set.c, .slice d.gone.p d.gone.n d.gone.c] 30)).alloc (.cells #[.int .i64 e.num, .slice e.set.p e.set.n e.set.c, .slice e.gone.p e.gone.n e.gone.c] 30) := ⟨_, rfl⟩
  have HT0 : Hid (TriS w W sn s d e) := by rw [hW]; exact TriS.start w sn s d e
  have HW := hid hW
  obtain ⟨V, hV⟩ : ∃ V, V = W.alloc (.cells #[.int .i64 sn, .slice s.p s.n s.c] 24) := ⟨_, rfl⟩
  have hBV : Below W.heap.size W V := by rw [hV]; exact (Below.refl _ _).alloc (Nat.le_refl _) _
  have HXQ : Hid (Box V W.heap.size #[.int .i64 sn, .slice s.p s.n s.c] 24) := by rw [hV]; exact Box.new _ _ _
  have HV := hid hV
  have HT1 := hid (HT0.out.below hBV)
  have HSz := hid (sizesS_any ⟨sn, s.p, s.n, s.c, s.item⟩ V (fun b => b < V.heap.size) (LT.toST ((hs.below HT1.out.bel).mono fun b _ h => h) hn.1 hn.2) (fun b h => h) W.heap.size HXQ.out)
  have HS := hid hs
  have HD := hid hd
  have HE := hid he
  have HN := hid hn
  have x0 := HT0.out.b0.cell 0
  have x1 := HT0.out.b0.cell 1
  have xl := HT0.out.b0.lt
  simp at x0 x1
  clear hs hd he hn hW hV hBV
  go_enter Try.func4, Try.ntmps4
  go_upto_region 1 with fail
  rw [← HW.out]
  go_wp2_with fail
  rw [← HV.out]
  refine HSz.out.mono ?_
  rintro r w1 ⟨q, rfl, hq, hb1⟩
  have HT2 := hid (HT1.out.below hb1)
  have HQ := hid hq
  clear x0 x1 xl hq hb1 HSz HT1 HT0 HXQ HV HW
  cases q with
  | false =>
    go_wp2
    exact bodyPost_ret (v := .bool true) (by simp [results, Try.results4, go_sem]) rfl ⟨rfl, HT2.out.bel⟩
  | true =>
    have HZs : Hid (CSz s) := CSz.of (HQ.out (by first | rfl | trivial))
    clear HQ
    obtain ⟨V2, hV2⟩ : ∃ V, V = w1.alloc (.cells #[.int .i64 d.num, .slice d.set.p d.set.n d.set.c, .slice d.gone.p d.gone.n d.gone.c, .int .i64 e.num, .slice e.set.p e.set.n e.set.c, .slice e.gone.p e.gone.n e.gone.c] 30) := ⟨_, rfl⟩
    have hBV2 : Below w1.heap.size w1 V2 := by rw [hV2]; exact (Below.refl _ _).alloc (Nat.le_refl _) _
    have HXR : Hid (Box V2 w1.heap.size #[.int .i64 d.num, .slice d.set.p d.set.n d.set.c, .slice d.gone.p d.gone.n d.gone.c, .int .i64 e.num, .slice e.set.p e.set.n e.set.c, .slice e.gone.p e.gone.n e.gone.c] 30) := by rw [hV2]; exact Box.new _ _ _
    have HV2 := hid hV2
    have HT3 := hid (HT2.out.below hBV2)
    have HSd := hid (szDeltas_any (twoD w1.heap.size d e) V2 (fun b => b < V2.heap.size) (twoD_in HXR.out HXR.out.lt ((HD.out.below HT3.out.bel).mono fun b _ h => h) ((HE.out.below HT3.out.bel).mono fun b _ h => h)) (fun b h => h))
    have y0 := HT2.out.b1.cell 0
    have y1 := HT2.out.b1.cell 1
    have y2 := HT2.out.b1.cell 2
    have yl := HT2.out.b1.lt
    simp at y0 y1 y2
    have z0 := HT2.out.b2.cell 0
    have z1 := HT2.out.b2.cell 1
    have z2 := HT2.out.b2.cell 2
    have zl := HT2.out.b2.lt
    simp at z0 z1 z2
    clear hV2 hBV2
    go_wp2_with fail
    rw [← HV2.out]
    refine HSd.out.mono ?_
    rintro r w2 ⟨q, rfl, hq, hb2⟩
    have HT4 := hid (HT3.out.below hb2)
    have HQ := hid hq
    clear y0 y1 y2 yl z0 z1 z2 zl hq hb2 HSd HT3 HT2 HXR HV2
    cases q with
    | false =>
      go_wp2
      exact bodyPost_ret (v := .bool true) (by simp [results, Try.results4, go_sem]) rfl ⟨rfl, HT4.out.bel⟩
    | true =>
      have HZd : Hid (DSz d) := HQ.out (by first | rfl | trivial) 0 (by show 0 < 2; omega)
      have HZe : Hid (DSz e) := HQ.out (by first | rfl | trivial) 1 (by show 1 < 2; omega)
      clear HQ
      go_wp2_with fail
      refine (plain_any w2).mono ?_
      rintro r w3 ⟨rfl, hb3⟩
      have HT5 := hid (HT4.out.below hb3)
      clear hb3 HT4
      go_upto_region 5 with fail
      have HC1 := hid (apply_one sn s d w3 (fun b => b < w3.heap.size) ((HS.out.below HT5.out.bel).mono fun b _ h => h) HN.out.1 HN.out.2 ((HD.out.below HT5.out.bel).mono fun b _ h => h) (fun k h => h) HZs.out HZd.out)
      have x0 := HT5.out.b0.cell 0
      have x1 := HT5.out.b0.cell 1
      have xl := HT5.out.b0.lt
      simp at x0 x1
      have y0 := HT5.out.b1.cell 0
      have y1 := HT5.out.b1.cell 1
      have y2 := HT5.out.b1.cell 2
      have yl := HT5.out.b1.lt
      simp at y0 y1 y2
      go_wp2_with fail
      refine HC1.out.mono ?_
      rintro r w4 ⟨hb4, tn, t, n, rfl, ht, hn, hnt, ht0, ht1, zt⟩
      obtain ⟨V4, hV4⟩ : ∃ V, V = w4.alloc (.cells #[.int .i64 tn, .slice t.p t.n t.c] 24) := ⟨_, rfl⟩
      have hBV4 : Below w4.heap.size w4 V4 := by rw [hV4]; exact (Below.refl _ _).alloc (Nat.le_refl _) _
      have HXT : Hid (Box V4 w4.heap.size #[.int .i64 tn, .slice t.p t.n t.c] 24) := by rw [hV4]; exact Box.new _ _ _
      have HV4 := hid hV4
      have hB4 := hb4.trans (hBV4.mono hb4.size)
      have HT6 := hid (HT5.out.below hB4)
      have HTi := hid ((ht.below hBV4).mono (S' := fun k => w.heap.size ≤ k) fun b hb _ => Nat.le_trans HT5.out.bel.size hb)
      have HTn := hid (And.intro hn (And.intro hnt (And.intro ht0 (And.intro ht1 zt))))
      clear x0 x1 xl y0 y1 y2 yl hb4 hBV4 hB4 hV4 ht hn hnt ht0 ht1 zt HC1 HT5
      go_upto_region 6 with fail
      rw [← HV4.out]
      by_cases hn : n = 0
      case neg =>
        have hn' : (n != 0) = true := by simp [hn]
        go_wp2
        exact bodyPost_ret (v := .bool true) (by simp [results, Try.results4, go_sem]) rfl ⟨rfl, HT6.out.bel⟩
      subst hn
      have HOk : Hid (AppOk sn s d) := applyE_ok.1 (by have := HTn.out.1; omega)
      obtain ⟨rfl, hapd, _⟩ := HTn.out.2.1 rfl
      have HAp := hid hapd
      have HZt := hid HTn.out.2.2.2.2
      clear hapd HTn
      go_upto_region 8 with fail
      have HC2 := hid (join_one d e V4 (fun b => b < V4.heap.size) ((HD.out.below HT6.out.bel).mono fun b _ h => h) ((HE.out.below HT6.out.bel).mono fun b _ h => h) (fun k h => h) HZd.out HZe.out)
      have y0 := HT6.out.b1.cell 0
      have y1 := HT6.out.b1.cell 1
      have y2 := HT6.out.b1.cell 2
      have yl := HT6.out.b1.lt
      simp at y0 y1 y2
      have z0 := HT6.out.b2.cell 0
      have z1 := HT6.out.b2.cell 1
      have z2 := HT6.out.b2.cell 2
      have zl := HT6.out.b2.lt
      simp at z0 z1 z2
      go_wp2_with fail
      refine HC2.out.mono ?_
      rintro r w5 ⟨hb5, j, m, rfl, hj, hm, hmj, zj⟩
      obtain ⟨V5, hV5⟩ : ∃ V, V = w5.alloc (.cells #[.int .i64 j.num, .slice j.set.p j.set.n j.set.c, .slice j.gone.p j.gone.n j.gone.c] 30) := ⟨_, rfl⟩
      have hBV5 : Below w5.heap.size w5 V5 := by rw [hV5]; exact (Below.refl _ _).alloc (Nat.le_refl _) _
      have HXJ : Hid (Box V5 w5.heap.size #[.int .i64 j.num, .slice j.set.p j.set.n j.set.c, .slice j.gone.p j.gone.n j.gone.c] 30) := by rw [hV5]; exact Box.new _ _ _
      have HV5 := hid hV5
      have hB5 := hb5.trans (hBV5.mono hb5.size)
      have HT7 := hid (HT6.out.below hB5)
      have HTi5 := hid (HTi.out.below hB5)
      have HXT5 := hid (HXT.out.below hB5)
      have HJi := hid ((hj.below hBV5).mono (S' := fun k => w.heap.size ≤ k) fun b hb _ => Nat.le_trans HT6.out.bel.size hb)
      have HJm := hid (And.intro hm (And.intro hmj zj))
      clear y0 y1 y2 yl z0 z1 z2 zl hb5 hBV5 hB5 hV5 hj hm hmj zj HC2 HT6 HTi HXT HV4
      go_upto_region 9 with fail
      rw [← HV5.out]
      have HC3 := hid (apply_one d.num t e V5 (fun b => b < V5.heap.size) (HTi5.out.mono fun b _ h => h) HD.out.n0 HD.out.n1 ((HE.out.below HT7.out.bel).mono fun b _ h => h) (fun k h => h) HZt.out HZe.out)
      have x0 := HXT5.out.cell 0
      have x1 := HXT5.out.cell 1
      have xl := HXT5.out.lt
      simp at x0 x1
      have z0 := HT7.out.b2.cell 0
      have z1 := HT7.out.b2.cell 1
      have z2 := HT7.out.b2.cell 2
      have zl := HT7.out.b2.lt
      simp at z0 z1 z2
      go_wp2_with fail
      refine HC3.out.mono ?_
      rintro r w6 ⟨hb6, un, u, k, rfl, hu, hk, hku, hu0, hu1, zu⟩
      obtain ⟨V6, hV6⟩ : ∃ V, V = w6.alloc (.cells #[.int .i64 un, .slice u.p u.n u.c] 24) := ⟨_, rfl⟩
      have hBV6 : Below w6.heap.size w6 V6 := by rw [hV6]; exact (Below.refl _ _).alloc (Nat.le_refl _) _
      have HXU : Hid (Box V6 w6.heap.size #[.int .i64 un, .slice u.p u.n u.c] 24) := by rw [hV6]; exact Box.new _ _ _
      have HV6 := hid hV6
      have hB6 := hb6.trans (hBV6.mono hb6.size)
      have HT8 := hid (HT7.out.below hB6)
      have HJi6 := hid (HJi.out.below hB6)
      have HXJ6 := hid (HXJ.out.below hB6)
      have HUi := hid ((hu.below hBV6).mono (S' := fun k => w.heap.size ≤ k) fun b hb _ => Nat.le_trans HT7.out.bel.size hb)
      have HUk := hid (And.intro hk (And.intro hku zu))
      clear x0 x1 xl z0 z1 z2 zl hb6 hBV6 hB6 hV6 hu hk hku hu0 hu1 zu HC3 HT7 HJi HXJ HV5 HTi5 HXT5
      go_upto_region 10 with fail
      rw [← HV6.out]
      by_cases hm : m = 0
      case neg =>
        have hm' : (m != 0) = true := by simp [hm]
        by_cases hk : k = 0
        · subst hk
          have HM : Hid (m = 111) := by
            have h1 := HJm.out.1
            have h2 : joinE d e ≠ 0 := fun h => hm (by rw [h1, h]; rfl)
            have h3 := join_111 HOk.out HAp.out (applyE_ok.1 (by have := HUk.out.1; omega)) h2
            show m = 111
            rw [h1, h3]; rfl
          rw [HM.out]
          clear hm hm'
          go_wp2
          exact bodyPost_ret (v := .bool true) (by simp [results, Try.results4, go_sem]) rfl ⟨rfl, HT8.out.bel⟩
        · have hk' : (k == 0) = false := by simp [hk]
          go_wp2
          exact bodyPost_ret (v := .bool true) (by simp [results, Try.results4, go_sem]) rfl ⟨rfl, HT8.out.bel⟩
      subst hm
      have HJ0 : Hid (joinE d e = 0) := by have := HJm.out.1; show _ = _; omega
      have HJd := hid (HJm.out.2.1 rfl)
      have HZj := hid HJm.out.2.2
      clear HJm
      by_cases hk : k = 0
      case neg =>
        have hk' : (k != 0) = true := by simp [hk]
        have hk2 : (k == 0) = false := by simp [hk]
        go_upto_region 12 with fail
        go_upto_region 14 with fail
        have HC4 := hid (apply_one sn s j V6 (fun b => b < V6.heap.size) ((HS.out.below HT8.out.bel).mono fun b _ h => h) HN.out.1 HN.out.2 (HJi6.out.mono fun b _ h => h) (fun k h => h) HZs.out HZj.out)
        have x0 := HT8.out.b0.cell 0
        have x1 := HT8.out.b0.cell 1
        have xl := HT8.out.b0.lt
        simp at x0 x1
        have y0 := HXJ6.out.cell 0
        have y1 := HXJ6.out.cell 1
        have y2 := HXJ6.out.cell 2
        have yl := HXJ6.out.lt
        simp at y0 y1 y2
        go_wp2_with fail
        refine HC4.out.mono ?_
        rintro r w7 ⟨hb7, vn, v, l, rfl, hv, hl, hlv, hv0, hv1, zv⟩
        obtain ⟨V7, hV7⟩ : ∃ V, V = w7.alloc (.cells #[.int .i64 vn, .slice v.p v.n v.c] 24) := ⟨_, rfl⟩
        have hBV7 : Below w7.heap.size w7 V7 := by rw [hV7]; exact (Below.refl _ _).alloc (Nat.le_refl _) _
        have HXV : Hid (Box V7 w7.heap.size #[.int .i64 vn, .slice v.p v.n v.c] 24) := by rw [hV7]; exact Box.new _ _ _
        have HV7 := hid hV7
        have hB7 := hb7.trans (hBV7.mono hb7.size)
        have HT9 := hid (HT8.out.below hB7)
        have HUi7 := hid (HUi.out.below hB7)
        have HXU7 := hid (HXU.out.below hB7)
        have HVi := hid ((hv.below hBV7).mono (S' := fun k => w.heap.size ≤ k) fun b hb _ => Nat.le_trans HT8.out.bel.size hb)
        have HVl := hid (And.intro hl hlv)
        clear x0 x1 xl y0 y1 y2 yl hb7 hBV7 hB7 hV7 hv hl hlv hv0 hv1 zv HC4 HT8 HUi HXU HV6 HJi6 HXJ6
        go_upto_region 15 with fail
        rw [← HV7.out]
        by_cases hl : l = 0
        · subst hl
          have HAj : Hid (AppOk sn s j) := applyE_ok.1 (by have := HVl.out.1; omega)
          exact (hk (by rw [HUk.out.1, applyE_ok.2 (apply_two HOk.out HAp.out HJ0.out HJd.out.1 HAj.out)]; rfl)).elim
        have hl' : (l == 0) = false := by simp [hl]
        go_wp2
        exact bodyPost_ret (v := .bool true) (by simp [results, Try.results4, go_sem]) rfl ⟨rfl, HT9.out.bel⟩
      subst hk
      go_upto_region 12 with fail
      go_upto_region 14 with fail
      have HC4 := hid (apply_one sn s j V6 (fun b => b < V6.heap.size) ((HS.out.below HT8.out.bel).mono fun b _ h => h) HN.out.1 HN.out.2 (HJi6.out.mono fun b _ h => h) (fun k h => h) HZs.out HZj.out)
      have x0 := HT8.out.b0.cell 0
      have x1 := HT8.out.b0.cell 1
      have xl := HT8.out.b0.lt
      simp at x0 x1
      have y0 := HXJ6.out.cell 0
      have y1 := HXJ6.out.cell 1
      have y2 := HXJ6.out.cell 2
      have yl := HXJ6.out.lt
      simp at y0 y1 y2
      go_wp2_with fail
      refine HC4.out.mono ?_
      rintro r w7 ⟨hb7, vn, v, l, rfl, hv, hl, hlv, hv0, hv1, zv⟩
      obtain ⟨V7, hV7⟩ : ∃ V, V = w7.alloc (.cells #[.int .i64 vn, .slice v.p v.n v.c] 24) := ⟨_, rfl⟩
      have hBV7 : Below w7.heap.size w7 V7 := by rw [hV7]; exact (Below.refl _ _).alloc (Nat.le_refl _) _
      have HXV : Hid (Box V7 w7.heap.size #[.int .i64 vn, .slice v.p v.n v.c] 24) := by rw [hV7]; exact Box.new _ _ _
      have HV7 := hid hV7
      have hB7 := hb7.trans (hBV7.mono hb7.size)
      have HT9 := hid (HT8.out.below hB7)
      have HUi7 := hid (HUi.out.below hB7)
      have HXU7 := hid (HXU.out.below hB7)
      have HVi := hid ((hv.below hBV7).mono (S' := fun k => w.heap.size ≤ k) fun b hb _ => Nat.le_trans HT8.out.bel.size hb)
      have HVl := hid (And.intro hl hlv)
      clear x0 x1 xl y0 y1 y2 yl hb7 hBV7 hB7 hV7 hv hl hlv hv0 hv1 zv HC4 HT8 HUi HXU HV6 HJi6 HXJ6
      go_upto_region 15 with fail
      rw [← HV7.out]
      by_cases hl : l = 0
      · subst hl
        have HAj : Hid (AppOk sn s j) := applyE_ok.1 (by have := HVl.out.1; omega)
        obtain ⟨rfl, hvj, _⟩ := HVl.out.2 (by first | rfl | trivial)
        have HK0 := hid (apply_two HOk.out HAp.out HJ0.out HJd.out.1 HAj.out)
        obtain ⟨rfl, hue, _⟩ := HUk.out.2.1 (by first | rfl | trivial)
        have HAl : Hid (e.num = j.num ∧ LsAlk u v) := ⟨HJd.out.1.num.symm, LsAlk.of (by rw [hue.nl, hvj.nl]; exact two_ways HOk.out HAp.out HK0.out.okD HJd.out.1)⟩
        have HQ := hid (yStat e.num j.num u v V7 _ _ HUi7.out HVi.out)
        clear hvj hue
        have x0 := HXU7.out.cell 0
        have x1 := HXU7.out.cell 1
        have xl := HXU7.out.lt
        simp at x0 x1
        have y0 := HXV.out.cell 0
        have y1 := HXV.out.cell 1
        have yl := HXV.out.lt
        simp at y0 y1
        go_wp2_with fail
        refine HQ.out.mono ?_
        rintro r w8 ⟨q, rfl, hq, hb8⟩
        obtain rfl : q = true := hq.2 HAl.out
        have HB := hid (HT9.out.bel.trans (hb8.mono HT9.out.bel.size))
        clear hq hb8
        go_wp2
        exact bodyPost_ret (v := .bool true) (by simp [results, Try.results4, go_sem]) rfl ⟨rfl, HB.out⟩
      have hl' : (l == 0) = false := by simp [hl]
      have HK0 : Hid (AppOk d.num t e) := applyE_ok.1 (by have := HUk.out.1; omega)
      have HL := hid (apply_110 HOk.out HAp.out HJ0.out HJd.out.1 HJd.out.2 HK0.out (fun h => hl (by rw [HVl.out.1, h]; rfl)))
      have HL0 : Hid (l = 110) := by show _ = _; rw [HVl.out.1, HL.out.1]; rfl
      go_upto_region 17 with fail
      rw [HL0.out]
      clear hl hl'
      go_upto_region 19 with fail
      have HGn := hid HE.out.gone.nn
      go_wp2_with fail
      go_loopw [15, 16] (fun x y wr => ∃ (b : Bool) (k : Nat), k ≤ e.gone.n ∧ x = .bool b ∧ y = .int .i64 (k : Int) ∧ (b = true ↔ ∃ q, q < k ∧ keyIn d.set.toL (e.gone.item q) ∧ ¬ keyIn s.toL (e.gone.item q)) ∧ TriS w wr sn s d e) (fun _ y _ => e.gone.n - (intOf y).toNat)
      case atStart => exact ⟨false, 0, Nat.zero_le _, rfl, rfl, ⟨fun h => (by cases h), fun ⟨q, hq, _⟩ => absurd hq (by omega)⟩, HT9.out⟩
      case round =>
        obtain ⟨b, k, hk, rfl, rfl, hbb, hT⟩ := hrel
        have HBb := hid hbb
        have HTr := hid hT
        have s1 := hT.b0.cell 1
        have d1 := hT.b1.cell 1
        have g2 := hT.b2.cell 2
        have sl := hT.b0.lt
        have dl := hT.b1.lt
        have gl := hT.b2.lt
        have hgn := HGn.out
        simp at s1 d1 g2
        clear hT hbb
        by_cases hlt : k < e.gone.n
        · have hlt' : (k : Int) < (e.gone.n : Int) := by omega
          obtain ⟨b1, o1, hp, _, hl1, ha⟩ := (HE.out.gone.below HTr.out.bel).at_ (by omega)
          have a0 : wr.cell? ⟨b1, o1 + k, none⟩ = some (.string (e.gone.item k)) := by have := ha k hlt 0 _ rfl; simpa [elStr] using this
          rw [hp] at g2
          clear ha hp
          have HM1 : Hid (∀ W, Below wr.heap.size wr W → Calls Try.prog 20 #[.slice d.set.p d.set.n d.set.c, .string (e.gone.item k)] W fun r w' => ∃ c : Bool, r = .returned (.bool c) ∧ (c = true ↔ keyIn d.set.toL (e.gone.item k)) ∧ w' = W) := fun W hW => made_any d.set _ W _ ((HD.out.set.below HTr.out.bel).below hW)
          have HM2 : Hid (∀ W, Below wr.heap.size wr W → Calls Try.prog 20 #[.slice s.p s.n s.c, .string (e.gone.item k)] W fun r w' => ∃ c : Bool, r = .returned (.bool c) ∧ (c = true ↔ keyIn s.toL (e.gone.item k)) ∧ w' = W) := fun W hW => made_any s _ W _ ((HS.out.below HTr.out.bel).below hW)
          have HTd := hid (HTr.out.below (Below.refl _ _).drew)
          cases b with
          | true =>
            go_wp2_with fail
            refine wp_region_calmE 30 (fun wx => Below wr.heap.size wr wx) [(0, true), (1, true), (2, true), (3, false), (4, true), (5, false), (6, true), (7, true), (8, false)] (.one 9 true [(10, true), (11, true), (12, false), (13, true), (14, false), (15, true), (16, true), (17, false)] (.one 18 false [(19, true), (20, true), (21, true), (22, true)] .done)) (by kernel_rfl) (by kernel_rfl) (Below.refl _ _).drew ?_
            refine wpPre_e rfl rfl (fun K1 hK1 => ?_)
            apply Exists.intro
            refine And.intro (fun wx hx => ?_) ?_
            · go_simp
              try rfl
            go_simp
            refine hK1 _ ?_
            clear hK1 K1
            refine wpPre_e rfl rfl (fun K1 hK1 => ?_)
            apply Exists.intro
            refine And.intro (fun wx hx => ?_) ?_
            · go_simp
              try rfl
            go_simp
            refine hK1 _ ?_
            clear hK1 K1
            refine wpPre_i rfl (fun K1 hK1 => ?_)
            rw [if_neg (by go_simp; all_goals (intro h; cases h))]
            go_simp
            refine hK1 _ ?_
            clear hK1 K1
            refine wpPre_i rfl (fun K1 hK1 => ?_)
            rw [if_neg (by go_simp; all_goals (intro h; cases h))]
            go_simp
            refine hK1 _ ?_
            clear hK1 K1
            refine wpPre_i rfl (fun K1 hK1 => ?_)
            rw [if_neg (by go_simp; all_goals (intro h; cases h))]
            go_simp
            refine hK1 _ ?_
            clear hK1 K1
            refine wpPre_i rfl (fun K1 hK1 => ?_)
            rw [if_neg (by go_simp; all_goals (intro h; cases h))]
            go_simp
            refine hK1 _ ?_
            clear hK1 K1
            refine wpPre_i rfl (fun K1 hK1 => ?_)
            rw [if_neg (by go_simp; all_goals (intro h; cases h))]
            go_simp
            refine hK1 _ ?_
            clear hK1 K1
            refine wpPre_i rfl (fun K1 hK1 => ?_)
            rw [if_neg (by go_simp; all_goals (intro h; cases h))]
            go_simp
            refine hK1 _ ?_
            clear hK1 K1
            refine wpPre_i rfl (fun K1 hK1 => ?_)
            rw [if_neg (by go_simp; all_goals (intro h; cases h))]
            go_simp
            refine hK1 _ ?_
            clear hK1 K1
            refine wpPre_nil ?_
            refine wpTr_e rfl (fun K1 hK1 => ?_)
            rw [if_neg (by go_simp; all_goals (intro h; cases h))]
            go_simp
            refine hK1 _ _ (fun _ => (Below.refl _ _).drew) ?_
            clear hK1 K1
            refine wpPre_i rfl (fun K1 hK1 => ?_)
            rw [if_neg (by go_simp; all_goals (intro h; cases h))]
            go_simp
            refine hK1 _ ?_
            clear hK1 K1
            refine wpPre_i rfl (fun K1 hK1 => ?_)
            rw [if_neg (by go_simp; all_goals (intro h; cases h))]
            go_simp
            refine hK1 _ ?_
            clear hK1 K1
            refine wpPre_i rfl (fun K1 hK1 => ?_)
            rw [if_neg (by go_simp; all_goals (intro h; cases h))]
            go_simp
            refine hK1 _ ?_
            clear hK1 K1
            refine wpPre_i rfl (fun K1 hK1 => ?_)
            rw [if_neg (by go_simp; all_goals (intro h; cases h))]
            go_simp
            refine hK1 _ ?_
            clear hK1 K1
            refine wpPre_i rfl (fun K1 hK1 => ?_)
            rw [if_neg (by go_simp; all_goals (intro h; cases h))]
            go_simp
            refine hK1 _ ?_
            clear hK1 K1
            refine wpPre_i rfl (fun K1 hK1 => ?_)
            rw [if_neg (by go_simp; all_goals (intro h; cases h))]
            go_simp
            refine hK1 _ ?_
            clear hK1 K1
            refine wpPre_i rfl (fun K1 hK1 => ?_)
            rw [if_neg (by go_simp; all_goals (intro h; cases h))]
            go_simp
            refine hK1 _ ?_
            clear hK1 K1
            refine wpPre_i rfl (fun K1 hK1 => ?_)
            rw [if_neg (by go_simp; all_goals (intro h; cases h))]
            go_simp
            refine hK1 _ ?_
            clear hK1 K1
            refine wpPre_nil ?_
            refine wpTr_e rfl (fun K1 hK1 => ?_)
            rw [if_neg (by go_simp; all_goals (intro h; cases h))]
            go_simp
            refine hK1 _ _ (fun h => by cases h) ?_
            clear hK1 K1
            refine wpPre_i rfl (fun K1 hK1 => ?_)
            rw [if_neg (by go_simp; all_goals (intro h; cases h))]
            go_simp
            refine hK1 _ ?_
            clear hK1 K1
            refine wpPre_i rfl (fun K1 hK1 => ?_)
            rw [if_neg (by go_simp; all_goals (intro h; cases h))]
            go_simp
            refine hK1 _ ?_
            clear hK1 K1
            refine wpPre_e rfl rfl (fun K1 hK1 => ?_)
            apply Exists.intro
            refine And.intro (fun wx hx => ?_) ?_
            · go_simp
              try rfl
            go_simp
            refine hK1 _ ?_
            clear hK1 K1
            refine wpPre_e rfl rfl (fun K1 hK1 => ?_)
            apply Exists.intro
            refine And.intro (fun wx hx => ?_) ?_
            · go_simp
              try rfl
            go_simp
            refine hK1 _ ?_
            clear hK1 K1
            refine wpPre_nil ?_
            refine wpTr_done ?_
            go_wp2
            go_roundw
            case rel =>
              refine ⟨true, k + 1, by omega, rfl, by go_num, ⟨fun _ => ?_, fun _ => rfl⟩, HTd.out⟩
              obtain ⟨q, hq, h1⟩ := HBb.out.1 (by first | rfl | trivial)
              exact ⟨q, by omega, h1⟩
            case measure => simp [intOf]; omega
          | false =>
            have HNo : Hid (∀ q, q < k → ¬ (keyIn d.set.toL (e.gone.item q) ∧ ¬ keyIn s.toL (e.gone.item q))) := fun q hq h => by
              have := HBb.out.2 ⟨q, hq, h⟩
              cases this
            clear HBb
            by_cases hp1 : keyIn d.set.toL (e.gone.item k)
            · have HP1 := hid hp1
              clear hp1
              go_wp2_with fail
              refine wp_region_calmE 30 (fun wx => Below wr.heap.size wr wx) [(0, true), (1, true), (2, true), (3, false), (4, true), (5, false), (6, true), (7, true), (8, false)] (.one 9 true [(10, true), (11, true), (12, false), (13, true), (14, false), (15, true), (16, true), (17, false)] (.one 18 false [(19, true), (20, true), (21, true), (22, true)] .done)) (by kernel_rfl) (by kernel_rfl) (Below.refl _ _).drew ?_
              refine wpPre_e rfl rfl (fun K1 hK1 => ?_)
              apply Exists.intro
              refine And.intro (fun wx hx => ?_) ?_
              · go_simp
                try rfl
              go_simp
              refine hK1 _ ?_
              clear hK1 K1
              refine wpPre_e rfl rfl (fun K1 hK1 => ?_)
              apply Exists.intro
              refine And.intro (fun wx hx => ?_) ?_
              · go_simp
                try rfl
              go_simp
              refine hK1 _ ?_
              clear hK1 K1
              refine wpPre_i rfl (fun K1 hK1 => ?_)
              rw [if_pos (by go_simp)]
              apply Exists.intro
              refine And.intro (fun wx hx => ?_) ?_
              · go_simp
                try rfl
              go_simp
              refine hK1 _ ?_
              clear hK1 K1
              refine wpPre_i rfl (fun K1 hK1 => ?_)
              rw [if_pos (by go_simp)]
              apply Exists.intro
              refine And.intro (fun wx hx => ?_) ?_
              · have e0 := below_fact hx rfl d1
                have e1 := below_fact hx rfl g2
                have e2 := below_fact hx rfl s1
                have e3 := below_fact hx rfl a0
                go_simp
                try rfl
              go_simp
              refine hK1 _ ?_
              clear hK1 K1
              refine wpPre_i rfl (fun K1 hK1 => ?_)
              rw [if_pos (by go_simp)]
              apply Exists.intro
              refine And.intro (fun wx hx => ?_) ?_
              · go_simp
                try rfl
              go_simp
              refine hK1 _ ?_
              clear hK1 K1
              refine wpPre_i rfl (fun K1 hK1 => ?_)
              rw [if_pos (by go_simp)]
              apply Exists.intro
              refine And.intro (fun wx hx => ?_) ?_
              · have e0 := below_fact hx rfl d1
                have e1 := below_fact hx rfl g2
                have e2 := below_fact hx rfl s1
                have e3 := below_fact hx rfl a0
                go_simp
                try rfl
              go_simp
              refine hK1 _ ?_
              clear hK1 K1
              refine wpPre_i rfl (fun K1 hK1 => ?_)
              rw [if_pos (by go_simp)]
              apply Exists.intro
              refine And.intro (fun wx hx => ?_) ?_
              · go_simp
                try rfl
              go_simp
              refine hK1 _ ?_
              clear hK1 K1
              refine wpPre_i rfl (fun K1 hK1 => ?_)
              rw [if_pos (by go_simp)]
              apply Exists.intro
              refine And.intro (fun wx hx => ?_) ?_
              · go_simp
                try rfl
              go_simp
              refine hK1 _ ?_
              clear hK1 K1
              refine wpPre_i rfl (fun K1 hK1 => ?_)
              rw [if_pos (by go_simp)]
              apply Exists.intro
              refine And.intro (fun wx hx => ?_) ?_
              · have e0 := below_fact hx rfl d1
                have e1 := below_fact hx rfl g2
                have e2 := below_fact hx rfl s1
                have e3 := below_fact hx rfl a0
                go_simp
                try rfl
              go_simp
              refine hK1 _ ?_
              clear hK1 K1
              refine wpPre_nil ?_
              refine wpTr_e rfl (fun K1 hK1 => ?_)
              refine step_callG (by go_simp) 20 #[.tmp 87, .tmp 92] _ rfl Try.f20 Try.func20 (by kernel_rfl) rfl #[.slice d.set.p d.set.n d.set.c, .string (e.gone.item k)] rfl _ (HM1.out _ (Below.refl _ _).drew) (fun r w8 h8 => ?_)
              obtain ⟨r1, rfl, hr1, rfl⟩ := h8
              refine ⟨_, rfl, ?_⟩
              obtain rfl : r1 = true := hr1.2 HP1.out
              clear hr1
              go_simp
              refine hK1 _ _ (fun _ => (Below.refl _ _).drew) ?_
              clear hK1 K1
              refine wpPre_i rfl (fun K1 hK1 => ?_)
              rw [if_pos (by go_simp)]
              apply Exists.intro
              refine And.intro (fun wx hx => ?_) ?_
              · go_simp
                try rfl
              go_simp
              refine hK1 _ ?_
              clear hK1 K1
              refine wpPre_i rfl (fun K1 hK1 => ?_)
              rw [if_pos (by go_simp)]
              apply Exists.intro
              refine And.intro (fun wx hx => ?_) ?_
              · go_simp
                try rfl
              go_simp
              refine hK1 _ ?_
              clear hK1 K1
              refine wpPre_i rfl (fun K1 hK1 => ?_)
              rw [if_pos (by go_simp)]
              apply Exists.intro
              refine And.intro (fun wx hx => ?_) ?_
              · have e0 := below_fact hx rfl d1
                have e1 := below_fact hx rfl g2
                have e2 := below_fact hx rfl s1
                have e3 := below_fact hx rfl a0
                go_simp
                try rfl
              go_simp
              refine hK1 _ ?_
              clear hK1 K1
              refine wpPre_i rfl (fun K1 hK1 => ?_)
              rw [if_pos (by go_simp)]
              apply Exists.intro
              refine And.intro (fun wx hx => ?_) ?_
              · go_simp
                try rfl
              go_simp
              refine hK1 _ ?_
              clear hK1 K1
              refine wpPre_i rfl (fun K1 hK1 => ?_)
              rw [if_pos (by go_simp)]
              apply Exists.intro
              refine And.intro (fun wx hx => ?_) ?_
              · have e0 := below_fact hx rfl d1
                have e1 := below_fact hx rfl g2
                have e2 := below_fact hx rfl s1
                have e3 := below_fact hx rfl a0
                go_simp
                try rfl
              go_simp
              refine hK1 _ ?_
              clear hK1 K1
              refine wpPre_i rfl (fun K1 hK1 => ?_)
              rw [if_pos (by go_simp)]
              apply Exists.intro
              refine And.intro (fun wx hx => ?_) ?_
              · go_simp
                try rfl
              go_simp
              refine hK1 _ ?_
              clear hK1 K1
              refine wpPre_i rfl (fun K1 hK1 => ?_)
              rw [if_pos (by go_simp)]
              apply Exists.intro
              refine And.intro (fun wx hx => ?_) ?_
              · go_simp
                try rfl
              go_simp
              refine hK1 _ ?_
              clear hK1 K1
              refine wpPre_i rfl (fun K1 hK1 => ?_)
              rw [if_pos (by go_simp)]
              apply Exists.intro
              refine And.intro (fun wx hx => ?_) ?_
              · have e0 := below_fact hx rfl d1
                have e1 := below_fact hx rfl g2
                have e2 := below_fact hx rfl s1
                have e3 := below_fact hx rfl a0
                go_simp
                try rfl
              go_simp
              refine hK1 _ ?_
              clear hK1 K1
              refine wpPre_nil ?_
              refine wpTr_e rfl (fun K1 hK1 => ?_)
              refine step_callG (by go_simp) 20 #[.tmp 96, .tmp 101] _ rfl Try.f20 Try.func20 (by kernel_rfl) rfl #[.slice s.p s.n s.c, .string (e.gone.item k)] rfl _ (HM2.out _ (Below.refl _ _).drew) (fun r w8 h8 => ?_)
              obtain ⟨r2, rfl, hr2, rfl⟩ := h8
              refine ⟨_, rfl, ?_⟩
              have HR2 := hid hr2
              clear hr2
              go_simp
              refine hK1 _ _ (fun h => by cases h) ?_
              clear hK1 K1
              refine wpPre_i rfl (fun K1 hK1 => ?_)
              rw [if_pos (by go_simp)]
              apply Exists.intro
              refine And.intro (fun wx hx => ?_) ?_
              · go_simp
                try rfl
              go_simp
              refine hK1 _ ?_
              clear hK1 K1
              refine wpPre_i rfl (fun K1 hK1 => ?_)
              rw [if_pos (by go_simp)]
              apply Exists.intro
              refine And.intro (fun wx hx => ?_) ?_
              · go_simp
                try rfl
              go_simp
              refine hK1 _ ?_
              clear hK1 K1
              refine wpPre_e rfl rfl (fun K1 hK1 => ?_)
              apply Exists.intro
              refine And.intro (fun wx hx => ?_) ?_
              · go_simp
                try rfl
              go_simp
              refine hK1 _ ?_
              clear hK1 K1
              refine wpPre_e rfl rfl (fun K1 hK1 => ?_)
              apply Exists.intro
              refine And.intro (fun wx hx => ?_) ?_
              · go_simp
                try rfl
              go_simp
              refine hK1 _ ?_
              clear hK1 K1
              refine wpPre_nil ?_
              refine wpTr_done ?_
              go_wp2
              go_roundw
              case rel =>
                refine ⟨!r2, k + 1, by omega, rfl, by go_num, ⟨fun h => ⟨k, by omega, HP1.out, fun hx => ?_⟩, fun ⟨q, hq, hq1, hq2⟩ => ?_⟩, HTd.out⟩
                · have := HR2.out.2 hx
                  rw [this] at h
                  cases h
                · by_cases hqk : q < k
                  · exact (HNo.out q hqk ⟨hq1, hq2⟩).elim
                  · obtain rfl : q = k := by omega
                    cases hr : r2 with
                    | false => rfl
                    | true => exact (hq2 (HR2.out.1 hr)).elim
              case measure => simp [intOf]; omega
            · have HP1 := hid hp1
              clear hp1
              go_wp2_with fail
              refine wp_region_calmE 30 (fun wx => Below wr.heap.size wr wx) [(0, true), (1, true), (2, true), (3, false), (4, true), (5, false), (6, true), (7, true), (8, false)] (.one 9 true [(10, true), (11, true), (12, false), (13, true), (14, false), (15, true), (16, true), (17, false)] (.one 18 false [(19, true), (20, true), (21, true), (22, true)] .done)) (by kernel_rfl) (by kernel_rfl) (Below.refl _ _).drew ?_
              refine wpPre_e rfl rfl (fun K1 hK1 => ?_)
              apply Exists.intro
              refine And.intro (fun wx hx => ?_) ?_
              · go_simp
                try rfl
              go_simp
              refine hK1 _ ?_
              clear hK1 K1
              refine wpPre_e rfl rfl (fun K1 hK1 => ?_)
              apply Exists.intro
              refine And.intro (fun wx hx => ?_) ?_
              · go_simp
                try rfl
              go_simp
              refine hK1 _ ?_
              clear hK1 K1
              refine wpPre_i rfl (fun K1 hK1 => ?_)
              rw [if_pos (by go_simp)]
              apply Exists.intro
              refine And.intro (fun wx hx => ?_) ?_
              · go_simp
                try rfl
              go_simp
              refine hK1 _ ?_
              clear hK1 K1
              refine wpPre_i rfl (fun K1 hK1 => ?_)
              rw [if_pos (by go_simp)]
              apply Exists.intro
              refine And.intro (fun wx hx => ?_) ?_
              · have e0 := below_fact hx rfl d1
                have e1 := below_fact hx rfl g2
                have e2 := below_fact hx rfl s1
                have e3 := below_fact hx rfl a0
                go_simp
                try rfl
              go_simp
              refine hK1 _ ?_
              clear hK1 K1
              refine wpPre_i rfl (fun K1 hK1 => ?_)
              rw [if_pos (by go_simp)]
              apply Exists.intro
              refine And.intro (fun wx hx => ?_) ?_
              · go_simp
                try rfl
              go_simp
              refine hK1 _ ?_
              clear hK1 K1
              refine wpPre_i rfl (fun K1 hK1 => ?_)
              rw [if_pos (by go_simp)]
              apply Exists.intro
              refine And.intro (fun wx hx => ?_) ?_
              · have e0 := below_fact hx rfl d1
                have e1 := below_fact hx rfl g2
                have e2 := below_fact hx rfl s1
                have e3 := below_fact hx rfl a0
                go_simp
                try rfl
              go_simp
              refine hK1 _ ?_
              clear hK1 K1
              refine wpPre_i rfl (fun K1 hK1 => ?_)
              rw [if_pos (by go_simp)]
              apply Exists.intro
              refine And.intro (fun wx hx => ?_) ?_
              · go_simp
                try rfl
              go_simp
              refine hK1 _ ?_
              clear hK1 K1
              refine wpPre_i rfl (fun K1 hK1 => ?_)
              rw [if_pos (by go_simp)]
              apply Exists.intro
              refine And.intro (fun wx hx => ?_) ?_
              · go_simp
                try rfl
              go_simp
              refine hK1 _ ?_
              clear hK1 K1
              refine wpPre_i rfl (fun K1 hK1 => ?_)
              rw [if_pos (by go_simp)]
              apply Exists.intro
              refine And.intro (fun wx hx => ?_) ?_
              · have e0 := below_fact hx rfl d1
                have e1 := below_fact hx rfl g2
                have e2 := below_fact hx rfl s1
                have e3 := below_fact hx rfl a0
                go_simp
                try rfl
              go_simp
              refine hK1 _ ?_
              clear hK1 K1
              refine wpPre_nil ?_
              refine wpTr_e rfl (fun K1 hK1 => ?_)
              refine step_callG (by go_simp) 20 #[.tmp 87, .tmp 92] _ rfl Try.f20 Try.func20 (by kernel_rfl) rfl #[.slice d.set.p d.set.n d.set.c, .string (e.gone.item k)] rfl _ (HM1.out _ (Below.refl _ _).drew) (fun r w8 h8 => ?_)
              obtain ⟨r1, rfl, hr1, rfl⟩ := h8
              refine ⟨_, rfl, ?_⟩
              obtain rfl : r1 = false := Bool.eq_false_iff.2 fun h => HP1.out (hr1.1 h)
              clear hr1
              go_simp
              refine hK1 _ _ (fun _ => (Below.refl _ _).drew) ?_
              clear hK1 K1
              refine wpPre_i rfl (fun K1 hK1 => ?_)
              rw [if_pos (by go_simp)]
              apply Exists.intro
              refine And.intro (fun wx hx => ?_) ?_
              · go_simp
                try rfl
              go_simp
              refine hK1 _ ?_
              clear hK1 K1
              refine wpPre_i rfl (fun K1 hK1 => ?_)
              rw [if_neg (by go_simp; all_goals (intro h; cases h))]
              go_simp
              refine hK1 _ ?_
              clear hK1 K1
              refine wpPre_i rfl (fun K1 hK1 => ?_)
              rw [if_neg (by go_simp; all_goals (intro h; cases h))]
              go_simp
              refine hK1 _ ?_
              clear hK1 K1
              refine wpPre_i rfl (fun K1 hK1 => ?_)
              rw [if_neg (by go_simp; all_goals (intro h; cases h))]
              go_simp
              refine hK1 _ ?_
              clear hK1 K1
              refine wpPre_i rfl (fun K1 hK1 => ?_)
              rw [if_neg (by go_simp; all_goals (intro h; cases h))]
              go_simp
              refine hK1 _ ?_
              clear hK1 K1
              refine wpPre_i rfl (fun K1 hK1 => ?_)
              rw [if_neg (by go_simp; all_goals (intro h; cases h))]
              go_simp
              refine hK1 _ ?_
              clear hK1 K1
              refine wpPre_i rfl (fun K1 hK1 => ?_)
              rw [if_neg (by go_simp; all_goals (intro h; cases h))]
              go_simp
              refine hK1 _ ?_
              clear hK1 K1
              refine wpPre_i rfl (fun K1 hK1 => ?_)
              rw [if_neg (by go_simp; all_goals (intro h; cases h))]
              go_simp
              refine hK1 _ ?_
              clear hK1 K1
              refine wpPre_nil ?_
              refine wpTr_e rfl (fun K1 hK1 => ?_)
              rw [if_neg (by go_simp; all_goals (intro h; cases h))]
              go_simp
              refine hK1 _ _ (fun h => by cases h) ?_
              clear hK1 K1
              refine wpPre_i rfl (fun K1 hK1 => ?_)
              rw [if_neg (by go_simp; all_goals (intro h; cases h))]
              go_simp
              refine hK1 _ ?_
              clear hK1 K1
              refine wpPre_i rfl (fun K1 hK1 => ?_)
              rw [if_pos (by go_simp)]
              apply Exists.intro
              refine And.intro (fun wx hx => ?_) ?_
              · go_simp
                try rfl
              go_simp
              refine hK1 _ ?_
              clear hK1 K1
              refine wpPre_e rfl rfl (fun K1 hK1 => ?_)
              apply Exists.intro
              refine And.intro (fun wx hx => ?_) ?_
              · go_simp
                try rfl
              go_simp
              refine hK1 _ ?_
              clear hK1 K1
              refine wpPre_e rfl rfl (fun K1 hK1 => ?_)
              apply Exists.intro
              refine And.intro (fun wx hx => ?_) ?_
              · go_simp
                try rfl
              go_simp
              refine hK1 _ ?_
              clear hK1 K1
              refine wpPre_nil ?_
              refine wpTr_done ?_
              go_wp2
              go_roundw
              case rel =>
                refine ⟨false, k + 1, by omega, rfl, by go_num, ⟨fun h => (by cases h), fun ⟨q, hq, hq1, hq2⟩ => ?_⟩, HTd.out⟩
                by_cases hqk : q < k
                · exact (HNo.out q hqk ⟨hq1, hq2⟩).elim
                · obtain rfl : q = k := by omega
                  exact (HP1.out hq1).elim
              case measure => simp [intOf]; omega
        · obtain rfl : k = e.gone.n := by omega
          obtain ⟨g, hg, hg1, hg2⟩ := HL.out.2
          obtain ⟨q, hq, rfl⟩ := LT.mem_toL hg
          obtain rfl : b = true := HBb.out.2 ⟨q, hq, hg1, hg2⟩
          clear hg hg1 hg2 hq
          go_wp2
          exact bodyPost_ret (v := .bool true) (by simp [results, Try.results4, go_sem]) rfl ⟨rfl, HTr.out.bel⟩
end Go.Proofs.Ytckopbkhpbhljaa

namespace Go.Proofs.Ytckopbkhpbhljaa
open Go.RowKit
set_option maxRecDepth 8000
/-- valid, without a look at the number of parts -/
def Val : VT → Prop
  | .nil => False
  | .mk k i s n _ _ f => (fitB k i s n = true ∧ s.size ≤ 24 ∧ n ≤ 6 ∧ -9223372036854775808 ≤ i ∧ i ≤ 9223372036854775807) ∧ ∀ j, j < n → Val (f j)
theorem val_of {w : World} {S : Nat → Prop} : ∀ (t : VT) (d m : Nat), VT.In w S t → (chk t d m).1 = 0 → Val t := by
  intro t
  induction t with
  | nil => intro d m h; exact h.elim
  | mk k i s n p c f ih =>
    intro d m hin h
    rw [chk_eq] at h
    by_cases h1 : 12 ≤ m
    · rw [if_pos h1] at h; simp at h
    rw [if_neg h1] at h
    by_cases h2 : fitB k i s n = false
    · rw [if_pos h2] at h; simp at h
    rw [if_neg h2] at h
    by_cases h3 : k = 3 ∧ 3 ≤ d
    · rw [if_pos h3] at h; simp at h
    rw [if_neg h3] at h
    by_cases h4 : 24 < s.size
    · rw [if_pos h4] at h; simp at h
    rw [if_neg h4] at h
    by_cases h5 : 6 < n
    · rw [if_pos h5] at h; simp at h
    rw [if_neg h5] at h
    refine ⟨⟨by simpa using h2, by omega, by omega, hin.fit.i0, hin.fit.i1⟩, fun j hj => ?_⟩
    have e : ∀ q, q ≤ n → (stepN (fun j m => chk (f j) (d + 1) m) (m + 1) q).1 = 0 := by
      intro q hq
      by_cases hz : (stepN (fun j m => chk (f j) (d + 1) m) (m + 1) q).1 = 0
      · exact hz
      · rw [stepN_stuck hq hz] at h; exact absurd h hz
    have e1 := e (j + 1) hj
    rw [stepN_succ (e j (by omega))] at e1
    exact ih j _ _ (hin.sub hj) e1
theorem zero_val : Val zeroT := ⟨⟨by simp [fitB], by decide, by omega, by omega, by omega⟩, fun j hj => absurd hj (by omega)⟩
theorem clean_val {w : World} {S : Nat → Prop} {t : VT} (h : VT.In w S t) : Val (cleanT t) := by
  unfold cleanT
  split
  · rename_i hc; exact val_of t 0 0 h hc
  · exact zero_val
end Go.Proofs.Ytckopbkhpbhljaa
