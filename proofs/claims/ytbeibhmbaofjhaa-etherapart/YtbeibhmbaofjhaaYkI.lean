import Derived.Test.YtbeibhmbaofjhaaYkH
import Derived.Deep.DeepCutAuto
namespace Go.Proofs.Ytbeibhmbaofjhaa
open Go.RowKit
set_option maxRecDepth 40000
theorem seen_at (s : Nat) (hs : (s : Int) < 1000000) : ∃ q2 t : Nat, wrap64 (q2 : Int) = (q2 : Int) ∧ ((s : Int).tmod 2 = 1 ∨ (s : Int).tmod 2 = 0) ∧ (s : Int).tdiv 2 = (q2 : Int) ∧ (q2 : Int).tmod 8 = (t : Int) ∧ t < 8 := by
  refine ⟨s / 2, s / 2 % 8, by rw [wrap64]; omega, ?_, ?_, ?_, by omega⟩
  · rw [Int.tmod_eq_emod_of_nonneg (by omega)]; omega
  · rw [Int.tdiv_eq_ediv_of_nonneg (by omega)]; exact (Int.natCast_ediv _ _).symm
  · rw [Int.tmod_eq_emod_of_nonneg (by omega)]; exact (Int.natCast_emod _ _).symm
theorem wr_t (t : Nat) (h : t < 8) : ∃ l0 l1 : Int, wrap64 (1 + (t : Int)) = l0 ∧ wrap64 (l0 + 1) = l1 ∧ IntKind.i64.wrap (l0 + 1) = l1 ∧ 1 ≤ l1 ∧ l1 ≤ 9 :=
  ⟨1 + t, 1 + t + 1, by rw [wrap64]; omega, by rw [wrap64]; omega, by rw [IntKind.wrap_i64]; omega, by omega, by omega⟩
theorem ybF_8 (F : Nat → Value) (sn : Int) : (ybF F sn)[8]? = some (.int .i64 sn) := by simp [ybF, ybC]
def Yb.tk (b : Yb) (x : YS) : Yb := { b with own := b.own ++ [x] }
set_option maxHeartbeats 16000000 in
/-- a list is kept -/
theorem bytes_any (Z Z' : Nat → Prop) (kb : Nat) (b : Yb) (outs told waits notes : List YS) (marks lefts : List Int) (x : YS) (mark : Int) (w : World) (hM : YbM w Z kb b) (hL : YbL b outs told waits notes marks lefts) (hwz : ∀ y ∈ waits, y.zs.length ≤ 100000)
    (hx : OwnBy 0 w x.val x.zs) (hxb : ∀ z ∈ x.zs, 0 ≤ z ∧ z ≤ 255) (hxl : x.zs.length ≤ 100000) (hz : ∀ k, Z' k → Z k ∧ k ∉ ob x.val) (hk : ∀ k ∈ ob x.val, k ∉ b.hot kb ∧ ¬ b.cold k) (hmk : -1000000000 ≤ mark ∧ mark ≤ 1000000000) (hs : b.sn < 1000000) :
    Calls Try.prog 11 #[.pointer (some ⟨kb, 0, none⟩), .slice x.p x.zs.length x.c, .int .i64 mark] w fun e w' => TnQ Z' kb (b.sn + 1) w e w' := by
  obtain ⟨xp, xc, xz⟩ := x
  have hl : xz.length ≤ 100000 := hxl
  obtain ⟨s, hsn⟩ : ∃ s : Nat, b.sn = (s : Int) := ⟨b.sn.toNat, by have := hL.s0; omega⟩
  have HM1 : Hid (YbM w Z' kb (b.tk ⟨xp, xc, xz⟩)) := hM.take ⟨hx, hxb, by show xz.length ≤ _; omega⟩ hz hk
  have HX2 : Hid ((b.X 2).length = waits.length) := by show _ = _; rw [hL.x2, List.length_map]
  have HX3 : Hid ((b.X 3).length = waits.length) := by show _ = _; rw [hL.x3, List.length_map, zs_len hL.sn]
  have HX4 : Hid ((b.X 4).length = waits.length) := by show _ = _; rw [hL.x4, ints, List.length_map, hL.lm]
  have HX5 : Hid ((b.X 5).length = waits.length) := by show _ = _; rw [hL.x5, ints, List.length_map, hL.ll]
  have HL := hid hL
  have HWz := hid hwz
  have HMk := hid hmk
  have HS1 : Hid ((s : Int) < 1000000) := by show (s : Int) < _; rw [← hsn]; exact hs
  have HSn := hid hsn
  have HF1 : Hid (Fr Z' w w) := Fr.refl _ _
  rw [hsn]
  show Calls Try.prog 11 #[.pointer (some ⟨kb, 0, none⟩), .slice xp xz.length xc, .int .i64 mark] w _
  obtain ⟨i0, Kd0⟩ := kindB
  obtain ⟨i1, Kd1⟩ := kindBs
  obtain ⟨i2, Kd2⟩ := kindI
  have HKd0 := hid Kd0
  have HKd1 := hid Kd1
  have HKd2 := hid Kd2
  clear hM hL hwz hx hxb hxl hz hk hmk hs hsn Kd0 Kd1 Kd2
  go_enter Try.func11, Try.ntmps11
  obtain ⟨pq, cq, hq0⟩ := row_val (HM1.out.row 2 (by decide))
  rw [(show ((b.tk ⟨xp, xc, xz⟩).X 2).length = waits.length from HX2.out)] at hq0
  have HQ0 : Hid ((b.tk ⟨xp, xc, xz⟩).F 2 = .slice pq waits.length cq) := hq0
  have HRx : Hid (w.ownsRow 0 51 1 (.slice pq waits.length cq) waits.length ((b.tk ⟨xp, xc, xz⟩).X 2)) := by
    have h := HM1.out.row 2 (by decide)
    rw [(show ((b.tk ⟨xp, xc, xz⟩).X 2).length = waits.length from HX2.out), HQ0.out] at h
    exact h
  have q0 : w.cell? ⟨kb, 4, none⟩ = some (.slice pq waits.length cq) := by rw [← hq0]; exact (HM1.out.bx.cell 4).trans rfl
  have ql := HM1.out.bx.lt
  clear hq0
  go_wp2_with (at_builtin; refine wpList_app rfl (.tmp 11) (.tmp 13) 22 51 i1 _ 1 24 HKd1.out rfl 0 (.slice pq waits.length cq) waits.length ((b.tk ⟨xp, xc, xz⟩).X 2) rfl (HRx.out.alloc _) ⟨w.heap.size, 0, none⟩ 1 1 [.slice xp xz.length xc] rfl rfl (one_new _ _ _) (one_val _ rfl) (by have := HL.out.le; have := HL.out.s0; omega) (by have := HL.out.le; have := HL.out.s0; omega) (Nat.zero_le _) ?_)
  intro v0 y0 ho0 hg0 hn0
  rw [← HQ0.out] at hg0 hn0
  obtain ⟨pr, cr, hv0⟩ := row_val ho0
  subst hv0
  have hba : But (fun k => k ∈ ob ((b.tk ⟨xp, xc, xz⟩).F 2)) w y0 := ((But.refl _ w).alloc (.cells #[.slice xp xz.length xc] 51)).grown hg0 fun k hk _ => ob_mem.2 hk
  have hput := HM1.out.put (i := 2) (by decide) (v' := .slice pr (waits.length + 1) cr) (xs' := (b.tk ⟨xp, xc, xz⟩).X 2 ++ [.slice xp xz.length xc]) (w2 := y0) (by rw [List.length_append, (show ((b.tk ⟨xp, xc, xz⟩).X 2).length = waits.length from HX2.out)]; exact ho0) hba (fun k hk => by
    rcases hn0 with e | e
    · exact .inl (ob_mem.2 (e ▸ ob_mem.1 hk))
    · have := e k (ob_mem.1 hk)
      exact .inr (by simp only [World.size_alloc] at this; omega))
  have hbx := HM1.out.bx.kept (hba.block kb HM1.out.bx.lt (HM1.out.d1 2 (by decide)))
  have r0 : y0.cell? ⟨kb, 4, none⟩ = some (.slice pq waits.length cq) := by rw [← HQ0.out]; exact (hbx.cell 4).trans rfl
  have r1 := hbx.frozen 4
  have r2 := hbx.lt
  have HPu := hid hput
  clear hput hbx hba ho0 hg0 hn0 q0 ql HRx
  go_upto_region 1 with fail
  obtain ⟨w2, hw1⟩ : ∃ V, V = y0.setCell ⟨kb, 4, none⟩ (.slice pr (waits.length + 1) cr) := ⟨_, rfl⟩
  rw [← hw1]
  have hP := HPu.out
  rw [show (2 : Nat) + 2 = 4 from rfl, ← hw1] at hP
  obtain ⟨b2, hb1⟩ : ∃ B, B = (b.tk ⟨xp, xc, xz⟩).put 2 (.slice pr (waits.length + 1) cr) ((b.tk ⟨xp, xc, xz⟩).X 2 ++ [.slice xp xz.length xc]) := ⟨_, rfl⟩
  rw [← hb1] at hP
  have HEb2 : Hid (b2.X 2 = (b.tk ⟨xp, xc, xz⟩).X 2 ++ [.slice xp xz.length xc] ∧ (∀ j, j ≠ 2 → b2.X j = (b.tk ⟨xp, xc, xz⟩).X j) ∧ b2.own = (b.tk ⟨xp, xc, xz⟩).own ∧ b2.rd = (b.tk ⟨xp, xc, xz⟩).rd ∧ b2.sn = (b.tk ⟨xp, xc, xz⟩).sn) := by
    show _ ∧ _
    rw [hb1]
    exact ⟨put_X _ _ _ _, fun j hj => put_ne _ _ _ _ hj, rfl, rfl, rfl⟩
  have HMb2 := hid hP.1
  have HF2 : Hid (Fr Z' w w2) := HF1.out.trans hP.2
  clear hw1 hP hb1 HPu HQ0 r0 r1 r2
  obtain ⟨pq, cq, hq0⟩ := row_val (HMb2.out.row 3 (by decide))
  rw [show (b2.X 3).length = waits.length by rw [HEb2.out.2.1 3 (by decide)]; exact HX3.out] at hq0
  have HQ0 : Hid (b2.F 3 = .slice pq waits.length cq) := hq0
  have q0 : w2.cell? ⟨kb, 5, none⟩ = some (.slice pq waits.length cq) := by rw [← hq0]; exact (HMb2.out.bx.cell 5).trans rfl
  have ql := HMb2.out.bx.lt
  have HOx : Hid (YS.ok w2 ⟨xp, xc, xz⟩) := wait_ok (HMb2.out.cw ⟨xp, xc, xz⟩ (by rw [HEb2.out.2.2.1]; simp [Yb.tk]))
  have HBy : Hid (∀ z ∈ xz, 0 ≤ z ∧ z ≤ 255) := (HMb2.out.cw ⟨xp, xc, xz⟩ (by rw [HEb2.out.2.2.1]; simp [Yb.tk])).2.1
  clear hq0
  refine wp_region_calmE 30 (fun wx => Below w2.heap.size w2 wx) [(0, true), (1, true), (2, true), (3, true), (4, false), (6, true)] (.one 5 true [] (.one 7 true [] (.one 8 true [] (.one 9 false [(10, true), (11, true)] (.one 12 false [] .done))))) (by kernel_rfl) (by kernel_rfl) (Below.refl _ _).drew ?_
  refine wpPre_e rfl rfl (fun K1 hK1 => ?_)
  apply Exists.intro
  refine And.intro (fun wx hx => ?_) ?_
  · go_simp
    try rfl
  go_simp
  refine hK1 _ ?_
  clear hK1 K1
  refine wpPre_e rfl rfl (fun K1 hK1 => ?_)
  apply Exists.intro
  refine And.intro (fun wx hx => ?_) ?_
  · go_simp
    try rfl
  go_simp
  refine hK1 _ ?_
  clear hK1 K1
  refine wpPre_e rfl rfl (fun K1 hK1 => ?_)
  apply Exists.intro
  refine And.intro (fun wx hx => ?_) ?_
  · go_simp
    try rfl
  go_simp
  refine hK1 _ ?_
  clear hK1 K1
  refine wpPre_e rfl rfl (fun K1 hK1 => ?_)
  apply Exists.intro
  refine And.intro (fun wx hx => ?_) ?_
  · go_simp
    try rfl
  go_simp
  refine hK1 _ ?_
  clear hK1 K1
  refine wpPre_e rfl rfl (fun K1 hK1 => ?_)
  apply Exists.intro
  refine And.intro (fun wx hx => ?_) ?_
  · have e0 := below_fact hx rfl q0
    go_simp
    try rfl
  go_simp
  refine hK1 _ ?_
  clear hK1 K1
  refine wpPre_e rfl rfl (fun K1 hK1 => ?_)
  apply Exists.intro
  refine And.intro (fun wx hx => ?_) ?_
  · go_simp
    try rfl
  go_simp
  refine hK1 _ ?_
  clear hK1 K1
  refine wpPre_nil ?_
  refine wpTr_e rfl (fun K1 hK1 => ?_)
  go_simp
  obtain ⟨x1, hx1⟩ : ∃ V, V = (w2.alloc (.cells #[] 5)).drew := ⟨_, rfl⟩
  rw [← hx1]
  have HB1 : Hid (Below w2.heap.size w2 x1) := by show Below _ _ _; rw [hx1]; exact ((Below.refl _ _).alloc (Nat.le_refl _) _).drew
  have HZ1 : Hid (x1.ownsRow 0 5 1 (.slice (some ⟨w2.heap.size, 0, none⟩) 0 0) 0 []) := by show World.ownsRow _ _ _ _ _ _ _; rw [hx1]; exact row_zero w2
  have HS1 : Hid (Src x1 xp xz.length xc 1 (xz.map (.int .u8))) := ok_src (x := ⟨xp, xc, xz⟩) (YS.ok_kept HOx.out HB1.out.size fun k _ hl => HB1.out.block k hl)
  clear hx1
  refine hK1 _ _ (fun _ => HB1.out) ?_
  clear hK1 K1
  refine wpPre_nil ?_
  refine wpTr_e rfl (fun K1 hK1 => ?_)
  refine step_appS rfl (.tmp 22) (.tmp 23) 51 5 i0 _ 1 1 HKd0.out rfl 0 (.slice (some ⟨w2.heap.size, 0, none⟩) 0 0) 0 [] rfl HZ1.out xp xz.length xc (xz.map (.int .u8)) rfl HS1.out (one_u8 _) (by omega) (by omega) (Nat.zero_le _) ?_
  intro v2 x2 ho2 hg2 hn2
  rw [Nat.zero_add, List.nil_append] at ho2
  obtain ⟨np, nc, hv2⟩ := row_val ho2
  subst hv2
  have HO2 : Hid (OwnBy 0 x2 (.slice np xz.length nc) xz) := ho2
  have HB2 : Hid (Below w2.heap.size w2 x2) := by
    show Below _ _ _
    refine Below.grown HB1.out hg2 HB1.out.size (fun k hk => ?_)
    have hk2 : w2.heap.size = k := by simpa [Value.ownBlock] using hk
    omega
  have HG2 : Hid (∀ k ∈ ob (.slice np xz.length nc), w2.heap.size ≤ k) := by
    intro k hk
    rcases hn2 with e | e
    · rw [ob_mem, e] at hk
      have hk2 : w2.heap.size = k := by simpa [Value.ownBlock] using hk
      omega
    · have := e k (ob_mem.1 hk)
      have := HB1.out.size
      omega
  clear ho2 hg2 hn2
  refine hK1 _ _ (fun _ => HB2.out) ?_
  clear hK1 K1
  refine wpPre_nil ?_
  refine wpTr_e rfl (fun K1 hK1 => ?_)
  go_simp
  obtain ⟨x3, hx3⟩ : ∃ V, V = x2.alloc (.cells #[.slice np xz.length nc] 51) := ⟨_, rfl⟩
  rw [← hx3]
  have HB23 : Hid (Below x2.heap.size x2 x3) := by show Below _ _ _; rw [hx3]; exact (Below.refl _ _).alloc (Nat.le_refl _) _
  have HB3 : Hid (Below w2.heap.size w2 x3) := HB2.out.trans (HB23.out.mono HB2.out.size)
  have HN3 : Hid (∀ j u, [(Value.slice np xz.length nc)][j]? = some u → x3.cell? ((⟨x2.heap.size, 0, none⟩ : Addr).add j) = some u) := by
    intro j u hu
    rw [hx3]
    exact one_new x2 _ _ j u hu
  have HMx : Hid (YbM x3 Z' kb ({ b2 with rd := b2.rd ++ [⟨np, nc, xz⟩] })) := by
    have hM2 := HMb2.out.below HB2.out
    have h := hM2.read (x := ⟨np, nc, xz⟩) (wait_ok ⟨HO2.out, HBy.out, by show xz.length ≤ _; omega⟩) fun k hk => ⟨fun e => by have h1 := HG2.out k (blk_ob hk); have h2 := HMb2.out.hot_lt e; omega, fun e => by have h1 := HG2.out k (blk_ob hk); have h2 := HMb2.out.zl k e; omega⟩
    exact h.below HB23.out
  have HRx : Hid (x3.ownsRow 0 51 1 (.slice pq waits.length cq) waits.length (b2.X 3)) := by
    have h := HMx.out.row 3 (by decide)
    rw [show (({ b2 with rd := b2.rd ++ [⟨np, nc, xz⟩] } : Yb).X 3).length = waits.length by show (b2.X 3).length = _; rw [HEb2.out.2.1 3 (by decide)]; exact HX3.out, show ({ b2 with rd := b2.rd ++ [⟨np, nc, xz⟩] } : Yb).F 3 = _ from HQ0.out] at h
    exact h
  clear hx3
  refine hK1 _ _ (fun _ => HB3.out) ?_
  clear hK1 K1
  refine wpPre_nil ?_
  refine wpTr_e rfl (fun K1 hK1 => ?_)
  refine step_app rfl (.tmp 21) (.tmp 25) 22 51 i1 _ 1 24 HKd1.out rfl 0 (.slice pq waits.length cq) waits.length (b2.X 3) rfl HRx.out ⟨x2.heap.size, 0, none⟩ 1 1 [.slice np xz.length nc] rfl rfl HN3.out (one_val _ rfl) (by have := HL.out.le; have := HL.out.s0; omega) (by have := HL.out.le; have := HL.out.s0; omega) (Nat.zero_le _) ?_
  intro v0 y0 ho0 hg0 hn0
  rw [← HQ0.out] at hg0 hn0
  obtain ⟨pr, cr, hv0⟩ := row_val ho0
  subst hv0
  have hput := HMx.out.put (i := 3) (by decide) (v' := .slice pr (waits.length + 1) cr) (xs' := b2.X 3 ++ [.slice np xz.length nc]) (w2 := y0) (by rw [List.length_append, show (b2.X 3).length = waits.length by rw [HEb2.out.2.1 3 (by decide)]; exact HX3.out]; exact ho0) ((But.refl _ x3).grown hg0 fun k hk _ => ob_mem.2 hk) (fun k hk => by
    rcases hn0 with e | e
    · exact .inl (ob_mem.2 (e ▸ ob_mem.1 hk))
    · exact .inr (e k (ob_mem.1 hk)))
  have hbx := HMx.out.bx.kept (((But.refl _ x3).grown (X := fun k => k ∈ ob (b2.F 3)) hg0 fun k hk _ => ob_mem.2 hk).block kb HMx.out.bx.lt (HMx.out.d1 3 (by decide)))
  have r0 : y0.cell? ⟨kb, 5, none⟩ = some (.slice pq waits.length cq) := by rw [← HQ0.out]; exact (hbx.cell 5).trans rfl
  have r1 := hbx.frozen 5
  have r2 := hbx.lt
  have HPu := hid hput
  clear hput hbx ho0 hg0 hn0
  refine hK1 _ _ (fun h => by cases h) ?_
  clear hK1 K1
  refine wpPre_e rfl rfl (fun K1 hK1 => ?_)
  apply Exists.intro
  refine And.intro (fun wx hx => ?_) ?_
  · go_simp
    try rfl
  go_simp
  refine hK1 _ ?_
  clear hK1 K1
  refine wpPre_e rfl rfl (fun K1 hK1 => ?_)
  apply Exists.intro
  refine And.intro (fun wx hx => ?_) ?_
  · go_simp
    try rfl
  go_simp
  refine hK1 _ ?_
  clear hK1 K1
  refine wpPre_nil ?_
  refine wpTr_e rfl (fun K1 hK1 => ?_)
  go_simp
  refine hK1 _ _ (fun h => by cases h) ?_
  clear hK1 K1
  refine wpPre_nil ?_
  refine wpTr_done ?_
  obtain ⟨w3, hw1⟩ : ∃ V, V = y0.setCell ⟨kb, 5, none⟩ (.slice pr (waits.length + 1) cr) := ⟨_, rfl⟩
  rw [← hw1]
  have hP := HPu.out
  rw [show (3 : Nat) + 2 = 5 from rfl, ← hw1] at hP
  obtain ⟨b3, hb1⟩ : ∃ B, B = ({ b2 with rd := b2.rd ++ [⟨np, nc, xz⟩] } : Yb).put 3 (.slice pr (waits.length + 1) cr) (b2.X 3 ++ [.slice np xz.length nc]) := ⟨_, rfl⟩
  rw [← hb1] at hP
  have HEb3 : Hid (b3.X 3 = b2.X 3 ++ [.slice np xz.length nc] ∧ (∀ j, j ≠ 3 → b3.X j = b2.X j) ∧ b3.own = b2.own ∧ b3.rd = b2.rd ++ [⟨np, nc, xz⟩] ∧ b3.sn = b2.sn) := by
    show _ ∧ _
    rw [hb1]
    exact ⟨put_X _ _ _ _, fun j hj => put_ne _ _ _ _ hj, rfl, rfl, rfl⟩
  have HMb3 := hid hP.1
  have HF3 : Hid (Fr Z' w w3) := HF2.out.trans ((Fr.below HB3.out).trans hP.2)
  clear hw1 hP hb1 HPu HQ0 r0 r1 r2 q0 ql HB1 HZ1 HS1 HB2 HG2 HO2 HB23 HB3 HN3 HMx HRx HOx HBy
  obtain ⟨pq, cq, hq0⟩ := row_val (HMb3.out.row 4 (by decide))
  rw [(show (b3.X 4).length = waits.length by rw [HEb3.out.2.1 4 (by decide), HEb2.out.2.1 4 (by decide)]; exact HX4.out)] at hq0
  have HQ0 : Hid (b3.F 4 = .slice pq waits.length cq) := hq0
  have HRx : Hid (w3.ownsRow 0 3 1 (.slice pq waits.length cq) waits.length (b3.X 4)) := by
    have h := HMb3.out.row 4 (by decide)
    rw [(show (b3.X 4).length = waits.length by rw [HEb3.out.2.1 4 (by decide), HEb2.out.2.1 4 (by decide)]; exact HX4.out), HQ0.out] at h
    exact h
  have q0 : w3.cell? ⟨kb, 6, none⟩ = some (.slice pq waits.length cq) := by rw [← hq0]; exact (HMb3.out.bx.cell 6).trans rfl
  have ql := HMb3.out.bx.lt
  clear hq0
  go_wp2_with (at_builtin; refine wpList_app rfl (.tmp 33) (.tmp 35) 23 3 i2 _ 1 8 HKd2.out rfl 0 (.slice pq waits.length cq) waits.length (b3.X 4) rfl (HRx.out.alloc _) ⟨w3.heap.size, 0, none⟩ 1 1 [.int .i64 mark] rfl rfl (one_new _ _ _) (one_val _ rfl) (by have := HL.out.le; have := HL.out.s0; omega) (by have := HL.out.le; have := HL.out.s0; omega) (Nat.zero_le _) ?_)
  intro v0 y0 ho0 hg0 hn0
  rw [← HQ0.out] at hg0 hn0
  obtain ⟨pr, cr, hv0⟩ := row_val ho0
  subst hv0
  have hba : But (fun k => k ∈ ob (b3.F 4)) w3 y0 := ((But.refl _ w3).alloc (.cells #[.int .i64 mark] 3)).grown hg0 fun k hk _ => ob_mem.2 hk
  have hput := HMb3.out.put (i := 4) (by decide) (v' := .slice pr (waits.length + 1) cr) (xs' := b3.X 4 ++ [.int .i64 mark]) (w2 := y0) (by rw [List.length_append, (show (b3.X 4).length = waits.length by rw [HEb3.out.2.1 4 (by decide), HEb2.out.2.1 4 (by decide)]; exact HX4.out)]; exact ho0) hba (fun k hk => by
    rcases hn0 with e | e
    · exact .inl (ob_mem.2 (e ▸ ob_mem.1 hk))
    · have := e k (ob_mem.1 hk)
      exact .inr (by simp only [World.size_alloc] at this; omega))
  have hbx := HMb3.out.bx.kept (hba.block kb HMb3.out.bx.lt (HMb3.out.d1 4 (by decide)))
  have r0 : y0.cell? ⟨kb, 6, none⟩ = some (.slice pq waits.length cq) := by rw [← HQ0.out]; exact (hbx.cell 6).trans rfl
  have r1 := hbx.frozen 6
  have r2 := hbx.lt
  have HPu := hid hput
  clear hput hbx hba ho0 hg0 hn0 q0 ql HRx
  go_upto_region 3 with fail
  obtain ⟨w4, hw1⟩ : ∃ V, V = y0.setCell ⟨kb, 6, none⟩ (.slice pr (waits.length + 1) cr) := ⟨_, rfl⟩
  rw [← hw1]
  have hP := HPu.out
  rw [show (4 : Nat) + 2 = 6 from rfl, ← hw1] at hP
  obtain ⟨b4, hb1⟩ : ∃ B, B = b3.put 4 (.slice pr (waits.length + 1) cr) (b3.X 4 ++ [.int .i64 mark]) := ⟨_, rfl⟩
  rw [← hb1] at hP
  have HEb4 : Hid (b4.X 4 = b3.X 4 ++ [.int .i64 mark] ∧ (∀ j, j ≠ 4 → b4.X j = b3.X j) ∧ b4.own = b3.own ∧ b4.rd = b3.rd ∧ b4.sn = b3.sn) := by
    show _ ∧ _
    rw [hb1]
    exact ⟨put_X _ _ _ _, fun j hj => put_ne _ _ _ _ hj, rfl, rfl, rfl⟩
  have HMb4 := hid hP.1
  have HF4 : Hid (Fr Z' w w4) := HF3.out.trans hP.2
  clear hw1 hP hb1 HPu HQ0 r0 r1 r2
  have c0 : w4.cell? ⟨kb, 0, none⟩ = some (.bool false) := (HMb4.out.bx.cell 0).trans rfl
  have c8 : w4.cell? ⟨kb, 8, none⟩ = some (.int .i64 (s : Int)) := by
    have h := HMb4.out.bx.cell 8
    rw [ybF_8, HEb4.out.2.2.2.2, HEb3.out.2.2.2.2, HEb2.out.2.2.2.2] at h
    rw [h]
    show some (Value.int .i64 b.sn) = _
    rw [HSn.out]
  have kl := HMb4.out.bx.lt
  have hw1 : wrap64 ((s : Int) + 1) = (s : Int) + 1 := by have := HS1.out; rw [wrap64]; omega
  have hw2 : IntKind.i64.wrap ((s : Int) + 1) = (s : Int) + 1 := by have := HS1.out; rw [IntKind.wrap_i64]; omega
  obtain ⟨q2, t, hq2, hod, hq1, hr3, ht8⟩ := seen_at s HS1.out
  obtain ⟨l0, l1, hw3, hw4, hw5, hl1, hl9⟩ := wr_t t ht8
  have HLb := hid (And.intro hl1 hl9)
  clear hl1 hl9 ht8
  rcases hod with hr1 | hr1
  · as_aux_lemma =>
    go_upto_region 6 with fail
    have r8 := HMb4.out.bx.frozen 8
    have hcell := HMb4.out.cell (i := 8) (u := .int .i64 ((s : Int) + 1)) (b' := { b4 with sn := (s : Int) + 1 }) rfl rfl rfl rfl (ybF_seen _ _ _)
    have HCe := hid hcell
    clear hcell
    go_upto_region 7 with fail
    obtain ⟨w5, hw5⟩ : ∃ V, V = w4.setCell ⟨kb, 8, none⟩ (.int .i64 ((s : Int) + 1)) := ⟨_, rfl⟩
    rw [← hw5]
    have hC := HCe.out
    rw [← hw5] at hC
    obtain ⟨b5, hb5⟩ : ∃ B, B = ({ b4 with sn := (s : Int) + 1 } : Yb) := ⟨_, rfl⟩
    rw [← hb5] at hC
    have HEb5 : Hid (b5.X = b4.X ∧ b5.own = b4.own ∧ b5.rd = b4.rd ∧ b5.sn = (s : Int) + 1) := by
      show _ ∧ _
      rw [hb5]
      exact ⟨rfl, rfl, rfl, rfl⟩
    have HMb5 := hid hC.1
    have HF5 : Hid (Fr Z' w w5) := HF4.out.trans hC.2
    clear hw5 hb5 hC HCe c0 c8 kl r8
    rw [hw3]
    clear hq1 hq2 hr1 hr3 hw3
    obtain ⟨pq, cq, hq0⟩ := row_val (HMb5.out.row 5 (by decide))
    rw [(show (b5.X 5).length = waits.length by rw [HEb5.out.1, HEb4.out.2.1 5 (by decide), HEb3.out.2.1 5 (by decide), HEb2.out.2.1 5 (by decide)]; exact HX5.out)] at hq0
    have HQ0 : Hid (b5.F 5 = .slice pq waits.length cq) := hq0
    have HRx : Hid (w5.ownsRow 0 3 1 (.slice pq waits.length cq) waits.length (b5.X 5)) := by
      have h := HMb5.out.row 5 (by decide)
      rw [(show (b5.X 5).length = waits.length by rw [HEb5.out.1, HEb4.out.2.1 5 (by decide), HEb3.out.2.1 5 (by decide), HEb2.out.2.1 5 (by decide)]; exact HX5.out), HQ0.out] at h
      exact h
    have q0 : w5.cell? ⟨kb, 7, none⟩ = some (.slice pq waits.length cq) := by rw [← hq0]; exact (HMb5.out.bx.cell 7).trans rfl
    have ql := HMb5.out.bx.lt
    clear hq0
    go_wp2_with (at_builtin; refine wpList_app rfl (.tmp 70) (.tmp 73) 23 3 i2 _ 1 8 HKd2.out rfl 0 (.slice pq waits.length cq) waits.length (b5.X 5) rfl (HRx.out.alloc _) ⟨w5.heap.size, 0, none⟩ 1 1 [.int .i64 l1] rfl rfl (one_new _ _ _) (one_val _ rfl) (by have := HL.out.le; have := HL.out.s0; omega) (by have := HL.out.le; have := HL.out.s0; omega) (Nat.zero_le _) ?_)
    intro v0 y0 ho0 hg0 hn0
    rw [← HQ0.out] at hg0 hn0
    obtain ⟨pr, cr, hv0⟩ := row_val ho0
    subst hv0
    have hba : But (fun k => k ∈ ob (b5.F 5)) w5 y0 := ((But.refl _ w5).alloc (.cells #[.int .i64 l1] 3)).grown hg0 fun k hk _ => ob_mem.2 hk
    have hput := HMb5.out.put (i := 5) (by decide) (v' := .slice pr (waits.length + 1) cr) (xs' := b5.X 5 ++ [.int .i64 l1]) (w2 := y0) (by rw [List.length_append, (show (b5.X 5).length = waits.length by rw [HEb5.out.1, HEb4.out.2.1 5 (by decide), HEb3.out.2.1 5 (by decide), HEb2.out.2.1 5 (by decide)]; exact HX5.out)]; exact ho0) hba (fun k hk => by
      rcases hn0 with e | e
      · exact .inl (ob_mem.2 (e ▸ ob_mem.1 hk))
      · have := e k (ob_mem.1 hk)
        exact .inr (by simp only [World.size_alloc] at this; omega))
    have hbx := HMb5.out.bx.kept (hba.block kb HMb5.out.bx.lt (HMb5.out.d1 5 (by decide)))
    have r0 : y0.cell? ⟨kb, 7, none⟩ = some (.slice pq waits.length cq) := by rw [← HQ0.out]; exact (hbx.cell 7).trans rfl
    have r1 := hbx.frozen 7
    have r2 := hbx.lt
    have HPu := hid hput
    clear hput hbx hba ho0 hg0 hn0 q0 ql HRx
    go_upto_region 8 with fail
    obtain ⟨w6, hw1⟩ : ∃ V, V = y0.setCell ⟨kb, 7, none⟩ (.slice pr (waits.length + 1) cr) := ⟨_, rfl⟩
    rw [← hw1]
    have hP := HPu.out
    rw [show (5 : Nat) + 2 = 7 from rfl, ← hw1] at hP
    obtain ⟨b6, hb1⟩ : ∃ B, B = b5.put 5 (.slice pr (waits.length + 1) cr) (b5.X 5 ++ [.int .i64 l1]) := ⟨_, rfl⟩
    rw [← hb1] at hP
    have HEb6 : Hid (b6.X 5 = b5.X 5 ++ [.int .i64 l1] ∧ (∀ j, j ≠ 5 → b6.X j = b5.X j) ∧ b6.own = b5.own ∧ b6.rd = b5.rd ∧ b6.sn = b5.sn) := by
      show _ ∧ _
      rw [hb1]
      exact ⟨put_X _ _ _ _, fun j hj => put_ne _ _ _ _ hj, rfl, rfl, rfl⟩
    have HMb6 := hid hP.1
    have HF6 : Hid (Fr Z' w w6) := HF5.out.trans hP.2
    clear hw1 hP hb1 HPu HQ0 r0 r1 r2
    have HL6 : Hid (YbL b6 outs told (waits ++ [⟨xp, xc, xz⟩]) (notes ++ [⟨np, nc, xz⟩]) (marks ++ [mark]) (lefts ++ [l1])) := by
      obtain ⟨g2, g2', o2, r2, s2⟩ := HEb2.out
      obtain ⟨g3, g3', o3, r3, s3⟩ := HEb3.out
      obtain ⟨g4, g4', o4, r4, s4⟩ := HEb4.out
      obtain ⟨g5, o5, r5, s5⟩ := HEb5.out
      obtain ⟨g6, g6', o6, r6, s6⟩ := HEb6.out
      refine ⟨?_, ?_, ?_, ?_, ?_, ?_, HL.out.so, ?_, ?_, ?_, fun l hl => ?_, fun m hm => ?_, ?_, fun y hy => ?_, ?_, ?_⟩
      · rw [g6' 0 (by decide), g5, g4' 0 (by decide), g3' 0 (by decide), g2' 0 (by decide)]; exact HL.out.x0
      · rw [g6' 1 (by decide), g5, g4' 1 (by decide), g3' 1 (by decide), g2' 1 (by decide)]; exact HL.out.x1
      · rw [g6' 2 (by decide), g5, g4' 2 (by decide), g3' 2 (by decide), g2, List.map_append]
        show b.X 2 ++ _ = _
        rw [HL.out.x2]; rfl
      · rw [g6' 3 (by decide), g5, g4' 3 (by decide), g3, g2' 3 (by decide), List.map_append]
        show b.X 3 ++ _ = _
        rw [HL.out.x3]; rfl
      · rw [g6' 4 (by decide), g5, g4, g3' 4 (by decide), g2' 4 (by decide), ints, List.map_append]
        show b.X 4 ++ _ = _
        rw [HL.out.x4]; rfl
      · rw [g6, g5, g4' 5 (by decide), g3' 5 (by decide), g2' 5 (by decide), ints, List.map_append]
        show b.X 5 ++ _ = _
        rw [HL.out.x5]; rfl
      · rw [List.map_append, List.map_append, HL.out.sn]; rfl
      · rw [List.length_append, List.length_append, HL.out.lm]; rfl
      · rw [List.length_append, List.length_append, HL.out.ll]; rfl
      · rcases List.mem_append.1 hl with hl | hl
        · exact HL.out.lp l hl
        · have hlb := HLb.out
          rw [List.mem_singleton.1 hl]
          omega
      · rcases List.mem_append.1 hm with hm | hm
        · exact HL.out.mp m hm
        · obtain rfl := List.mem_singleton.1 hm
          exact HMk.out
      · rw [o6, o5, o4, o3, o2]
        show b.own ++ _ = _
        rw [HL.out.ow]
      · rw [r6, r5, r4, r3, r2]
        show y ∈ b.rd ++ _
        have hr := HL.out.rd y
        simp only [List.mem_append, List.mem_singleton] at hy ⊢
        rcases hy with hy | hy | hy | rfl
        · exact .inl (hr (.inl hy))
        · exact .inl (hr (.inr (.inl hy)))
        · exact .inl (hr (.inr (.inr hy)))
        · exact .inr rfl
      · rw [s6, s5, List.length_append]
        have := HL.out.le
        have := HSn.out
        simp only [List.length_cons, List.length_nil]
        omega
      · rw [s6, s5]
        have := HS1.out
        omega
    have HTn := hid (turnBytes_any Z' kb b6 outs told (waits ++ [⟨xp, xc, xz⟩]) (notes ++ [⟨np, nc, xz⟩]) (marks ++ [mark]) (lefts ++ [l1]) w6 HMb6.out HL6.out fun y hy => by
      rcases List.mem_append.1 hy with hy | hy
      · exact HWz.out y hy
      · obtain rfl := List.mem_singleton.1 hy
        exact hl)
    have HS6 : Hid (b6.sn = (s : Int) + 1) := by show _ = _; rw [HEb6.out.2.2.2.2, HEb5.out.2.2.2]
    go_wp2_with fail
    refine HTn.out.mono ?_
    rintro e w7 ⟨rfl, hf7, b7, o7, t7, w7', n7, m7, l7, hI7, hs7, hz7⟩
    have HR : Hid (TnQ Z' kb ((s : Int) + 1) w (.returned (.tuple #[])) w7) := ⟨rfl, HF6.out.trans hf7, b7, o7, t7, w7', n7, m7, l7, hI7, by rw [hs7, HS6.out], hz7⟩
    clear hf7 hI7 hs7 hz7
    go_wp2
    exact bodyPost_end (v := .tuple #[]) (by simp [results, Try.results11, go_sem]) rfl HR.out
  · as_aux_lemma =>
    clear hq1 hq2 hr3 hw3 hw4 hw5
    go_upto_region 6 with fail
    have r8 := HMb4.out.bx.frozen 8
    have hcell := HMb4.out.cell (i := 8) (u := .int .i64 ((s : Int) + 1)) (b' := { b4 with sn := (s : Int) + 1 }) rfl rfl rfl rfl (ybF_seen _ _ _)
    have HCe := hid hcell
    clear hcell
    go_upto_region 7 with fail
    obtain ⟨w5, hw5⟩ : ∃ V, V = w4.setCell ⟨kb, 8, none⟩ (.int .i64 ((s : Int) + 1)) := ⟨_, rfl⟩
    rw [← hw5]
    have hC := HCe.out
    rw [← hw5] at hC
    obtain ⟨b5, hb5⟩ : ∃ B, B = ({ b4 with sn := (s : Int) + 1 } : Yb) := ⟨_, rfl⟩
    rw [← hb5] at hC
    have HEb5 : Hid (b5.X = b4.X ∧ b5.own = b4.own ∧ b5.rd = b4.rd ∧ b5.sn = (s : Int) + 1) := by
      show _ ∧ _
      rw [hb5]
      exact ⟨rfl, rfl, rfl, rfl⟩
    have HMb5 := hid hC.1
    have HF5 : Hid (Fr Z' w w5) := HF4.out.trans hC.2
    clear hw5 hb5 hC HCe c0 c8 kl r8
    obtain ⟨pq, cq, hq0⟩ := row_val (HMb5.out.row 5 (by decide))
    rw [(show (b5.X 5).length = waits.length by rw [HEb5.out.1, HEb4.out.2.1 5 (by decide), HEb3.out.2.1 5 (by decide), HEb2.out.2.1 5 (by decide)]; exact HX5.out)] at hq0
    have HQ0 : Hid (b5.F 5 = .slice pq waits.length cq) := hq0
    have HRx : Hid (w5.ownsRow 0 3 1 (.slice pq waits.length cq) waits.length (b5.X 5)) := by
      have h := HMb5.out.row 5 (by decide)
      rw [(show (b5.X 5).length = waits.length by rw [HEb5.out.1, HEb4.out.2.1 5 (by decide), HEb3.out.2.1 5 (by decide), HEb2.out.2.1 5 (by decide)]; exact HX5.out), HQ0.out] at h
      exact h
    have q0 : w5.cell? ⟨kb, 7, none⟩ = some (.slice pq waits.length cq) := by rw [← hq0]; exact (HMb5.out.bx.cell 7).trans rfl
    have ql := HMb5.out.bx.lt
    clear hq0
    go_wp2_with (at_builtin; refine wpList_app rfl (.tmp 70) (.tmp 73) 23 3 i2 _ 1 8 HKd2.out rfl 0 (.slice pq waits.length cq) waits.length (b5.X 5) rfl (HRx.out.alloc _) ⟨w5.heap.size, 0, none⟩ 1 1 [.int .i64 1] rfl rfl (one_new _ _ _) (one_val _ rfl) (by have := HL.out.le; have := HL.out.s0; omega) (by have := HL.out.le; have := HL.out.s0; omega) (Nat.zero_le _) ?_)
    intro v0 y0 ho0 hg0 hn0
    rw [← HQ0.out] at hg0 hn0
    obtain ⟨pr, cr, hv0⟩ := row_val ho0
    subst hv0
    have hba : But (fun k => k ∈ ob (b5.F 5)) w5 y0 := ((But.refl _ w5).alloc (.cells #[.int .i64 1] 3)).grown hg0 fun k hk _ => ob_mem.2 hk
    have hput := HMb5.out.put (i := 5) (by decide) (v' := .slice pr (waits.length + 1) cr) (xs' := b5.X 5 ++ [.int .i64 1]) (w2 := y0) (by rw [List.length_append, (show (b5.X 5).length = waits.length by rw [HEb5.out.1, HEb4.out.2.1 5 (by decide), HEb3.out.2.1 5 (by decide), HEb2.out.2.1 5 (by decide)]; exact HX5.out)]; exact ho0) hba (fun k hk => by
      rcases hn0 with e | e
      · exact .inl (ob_mem.2 (e ▸ ob_mem.1 hk))
      · have := e k (ob_mem.1 hk)
        exact .inr (by simp only [World.size_alloc] at this; omega))
    have hbx := HMb5.out.bx.kept (hba.block kb HMb5.out.bx.lt (HMb5.out.d1 5 (by decide)))
    have r0 : y0.cell? ⟨kb, 7, none⟩ = some (.slice pq waits.length cq) := by rw [← HQ0.out]; exact (hbx.cell 7).trans rfl
    have r1 := hbx.frozen 7
    have r2 := hbx.lt
    have HPu := hid hput
    clear hput hbx hba ho0 hg0 hn0 q0 ql HRx
    go_upto_region 8 with fail
    obtain ⟨w6, hw1⟩ : ∃ V, V = y0.setCell ⟨kb, 7, none⟩ (.slice pr (waits.length + 1) cr) := ⟨_, rfl⟩
    rw [← hw1]
    have hP := HPu.out
    rw [show (5 : Nat) + 2 = 7 from rfl, ← hw1] at hP
    obtain ⟨b6, hb1⟩ : ∃ B, B = b5.put 5 (.slice pr (waits.length + 1) cr) (b5.X 5 ++ [.int .i64 1]) := ⟨_, rfl⟩
    rw [← hb1] at hP
    have HEb6 : Hid (b6.X 5 = b5.X 5 ++ [.int .i64 1] ∧ (∀ j, j ≠ 5 → b6.X j = b5.X j) ∧ b6.own = b5.own ∧ b6.rd = b5.rd ∧ b6.sn = b5.sn) := by
      show _ ∧ _
      rw [hb1]
      exact ⟨put_X _ _ _ _, fun j hj => put_ne _ _ _ _ hj, rfl, rfl, rfl⟩
    have HMb6 := hid hP.1
    have HF6 : Hid (Fr Z' w w6) := HF5.out.trans hP.2
    clear hw1 hP hb1 HPu HQ0 r0 r1 r2
    have HL6 : Hid (YbL b6 outs told (waits ++ [⟨xp, xc, xz⟩]) (notes ++ [⟨np, nc, xz⟩]) (marks ++ [mark]) (lefts ++ [1])) := by
      obtain ⟨g2, g2', o2, r2, s2⟩ := HEb2.out
      obtain ⟨g3, g3', o3, r3, s3⟩ := HEb3.out
      obtain ⟨g4, g4', o4, r4, s4⟩ := HEb4.out
      obtain ⟨g5, o5, r5, s5⟩ := HEb5.out
      obtain ⟨g6, g6', o6, r6, s6⟩ := HEb6.out
      refine ⟨?_, ?_, ?_, ?_, ?_, ?_, HL.out.so, ?_, ?_, ?_, fun l hl => ?_, fun m hm => ?_, ?_, fun y hy => ?_, ?_, ?_⟩
      · rw [g6' 0 (by decide), g5, g4' 0 (by decide), g3' 0 (by decide), g2' 0 (by decide)]; exact HL.out.x0
      · rw [g6' 1 (by decide), g5, g4' 1 (by decide), g3' 1 (by decide), g2' 1 (by decide)]; exact HL.out.x1
      · rw [g6' 2 (by decide), g5, g4' 2 (by decide), g3' 2 (by decide), g2, List.map_append]
        show b.X 2 ++ _ = _
        rw [HL.out.x2]; rfl
      · rw [g6' 3 (by decide), g5, g4' 3 (by decide), g3, g2' 3 (by decide), List.map_append]
        show b.X 3 ++ _ = _
        rw [HL.out.x3]; rfl
      · rw [g6' 4 (by decide), g5, g4, g3' 4 (by decide), g2' 4 (by decide), ints, List.map_append]
        show b.X 4 ++ _ = _
        rw [HL.out.x4]; rfl
      · rw [g6, g5, g4' 5 (by decide), g3' 5 (by decide), g2' 5 (by decide), ints, List.map_append]
        show b.X 5 ++ _ = _
        rw [HL.out.x5]; rfl
      · rw [List.map_append, List.map_append, HL.out.sn]; rfl
      · rw [List.length_append, List.length_append, HL.out.lm]; rfl
      · rw [List.length_append, List.length_append, HL.out.ll]; rfl
      · rcases List.mem_append.1 hl with hl | hl
        · exact HL.out.lp l hl
        · have hlb := HLb.out
          rw [List.mem_singleton.1 hl]
          omega
      · rcases List.mem_append.1 hm with hm | hm
        · exact HL.out.mp m hm
        · obtain rfl := List.mem_singleton.1 hm
          exact HMk.out
      · rw [o6, o5, o4, o3, o2]
        show b.own ++ _ = _
        rw [HL.out.ow]
      · rw [r6, r5, r4, r3, r2]
        show y ∈ b.rd ++ _
        have hr := HL.out.rd y
        simp only [List.mem_append, List.mem_singleton] at hy ⊢
        rcases hy with hy | hy | hy | rfl
        · exact .inl (hr (.inl hy))
        · exact .inl (hr (.inr (.inl hy)))
        · exact .inl (hr (.inr (.inr hy)))
        · exact .inr rfl
      · rw [s6, s5, List.length_append]
        have := HL.out.le
        have := HSn.out
        simp only [List.length_cons, List.length_nil]
        omega
      · rw [s6, s5]
        have := HS1.out
        omega
    have HTn := hid (turnBytes_any Z' kb b6 outs told (waits ++ [⟨xp, xc, xz⟩]) (notes ++ [⟨np, nc, xz⟩]) (marks ++ [mark]) (lefts ++ [1]) w6 HMb6.out HL6.out fun y hy => by
      rcases List.mem_append.1 hy with hy | hy
      · exact HWz.out y hy
      · obtain rfl := List.mem_singleton.1 hy
        exact hl)
    have HS6 : Hid (b6.sn = (s : Int) + 1) := by show _ = _; rw [HEb6.out.2.2.2.2, HEb5.out.2.2.2]
    go_wp2_with fail
    refine HTn.out.mono ?_
    rintro e w7 ⟨rfl, hf7, b7, o7, t7, w7', n7, m7, l7, hI7, hs7, hz7⟩
    have HR : Hid (TnQ Z' kb ((s : Int) + 1) w (.returned (.tuple #[])) w7) := ⟨rfl, HF6.out.trans hf7, b7, o7, t7, w7', n7, m7, l7, hI7, by rw [hs7, HS6.out], hz7⟩
    clear hf7 hI7 hs7 hz7
    go_wp2
    exact bodyPost_end (v := .tuple #[]) (by simp [results, Try.results11, go_sem]) rfl HR.out
end Go.Proofs.Ytbeibhmbaofjhaa
