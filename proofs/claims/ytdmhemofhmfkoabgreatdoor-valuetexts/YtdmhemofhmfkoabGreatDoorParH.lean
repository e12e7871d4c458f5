import Derived.Test.YtdmhemofhmfkoabGreatDoorParG
import Derived.Test.YtdmhemofhmfkoabGreatDoorPack2
import Derived.Test.YtdmhemofhmfkoabGreatDoorDecP
import Derived.WalkMore
namespace Go.Proofs.YtdmhemofhmfkoabGreatDoor
open Go.RowKit
set_option maxRecDepth 8000

theorem step_apps {ops : Array Oper} {o : Oper} {a : Act} {w : World} {K : Act → World → Prop} {Q : Exit → Act → World → Prop} {E : Prop}
    (hgd : o.guard = none) (sl x : Operand) (ho : o.op = .call { callee := .builtin .append, args := #[sl, x], argTypes := #[25, 9] })
    (base : Nat) (i : TypeInfo) (Kd : Kind 25 5 i (.int .u8 0) 1 1) (v : Value) (n : Nat) (xs : List Value) (hs : a.eval sl = v) (hown : w.ownsRow base 5 1 v n xs) (s : ByteArray) (hx : a.eval x = .string s)
    (hbytes : n + s.size ≤ 140737488355328) (hbase : base ≤ w.heap.size)
    (hK : ∀ v' w', w'.ownsRow base 5 1 v' (n + s.size) (xs ++ Go.Lib.strCells s) → w.grownBy w' v.ownBlock → K (a.put o.dst v') w') :
    if Region.wanted o (yielded ops a.tmps) = true then Oper.wp Tryz.prog o a w K Q else E := by
  have hw : Region.wanted o (yielded ops a.tmps) = true := by simp [Region.wanted, hgd]
  rw [if_pos hw]
  obtain ⟨v', w', hr, h2, h3, _⟩ := Go.Lib.run_append_own_string (P := Tryz.prog) w base 25 9 o.type 5 i Kd.ht Tryz.underlying9 Kd.hi Kd.hz Kd.hsize Kd.hby v n xs hown s (by unfold maxLen; omega) hbytes hbase
  unfold Oper.wp execOp
  simp only [ho, resolve, invoke, builtin, Sem.run_bind, Sem.run_pure, Result.andThen_ok, List.map_toArray, List.map_cons, List.map_nil, hs, hx, hr]
  exact hK _ _ h2 h3
theorem conv_own {base : Nat} {w : World} {v : Value} {zs : List Int} (h : OwnBy base w v zs) : (convert 25 9 v).run Tryz.prog w = .ok (.string (strOf zs)) w := by
  obtain ⟨hl, ⟨hv, h0⟩ | ⟨b, cap, cur, hv, r⟩⟩ := id h
  · have hz : zs = [] := List.eq_nil_of_length_eq_zero h0
    subst hv hz
    exact conv_none 0 w
  · subst hv
    exact conv_any h
theorem own_len {base : Nat} {w : World} {v : Value} {zs : List Int} (h : OwnBy base w v zs) : ∃ p c, v = .slice p zs.length c := by
  obtain ⟨hl, ⟨hv, h0⟩ | ⟨b, cap, cur, hv, r⟩⟩ := id h
  · exact ⟨none, 0, by rw [hv, h0]⟩
  · exact ⟨_, _, hv⟩
theorem rd_grown {base rb q p : Nat} {w w2 w3 : World} {s : ByteArray} {v : Value} {zs : List Int} {Z : Array Value} (hv : OwnBy base w2 v zs) (hR : Rd w2 rb s p q) (hZ : Box w2 w.heap.size Z 24) (hK : But (fun y => y = rb) w w2) (hb : base = w.heap.size + 1) (hg : w2.grownBy w3 v.ownBlock) :
    Rd w3 rb s p q ∧ Box w3 w.heap.size Z 24 ∧ But (fun y => y = rb) w w3 :=
  ⟨(KeepN.grown hv hg).box (by decide) hR, (KeepN.grown hv hg).box (by decide) hZ, hK.grown hg fun k hk hl => absurd (World.ownsRow.lt hv k hk).1 (by omega)⟩
theorem own_but {base rb : Nat} {w w2 : World} {v : Value} {zs : List Int} (hv : OwnBy base w v zs) (hk : But (fun y => y = rb) w w2) (hb : rb < base) : OwnBy base w2 v zs :=
  ownsRow_keep hv fun g hg hl => hk.block g hl (fun e => by have := (World.ownsRow.lt hv g hg).1; omega)
theorem esc_le {s : ByteArray} {p b a' : Nat} (h : escS s p = .ok (b, a')) : p + 1 ≤ a' ∧ a' ≤ s.size ∧ b < 256 := by
  unfold escS at h
  split at h
  · rename_i h1
    simp only [Except.ok.injEq, Prod.mk.injEq] at h
    have := pk_pos (s := s) (a := p + 1) (by omega)
    have := pk_lt s (p + 1)
    omega
  split at h
  · rename_i h1
    simp only [Except.ok.injEq, Prod.mk.injEq] at h
    have := pk_pos (s := s) (a := p + 1) (by omega)
    omega
  split at h
  · rename_i h1
    simp only [Except.ok.injEq, Prod.mk.injEq] at h
    have := pk_pos (s := s) (a := p + 1) (by omega)
    omega
  split at h
  · split at h
    · cases h
    · rename_i x hx
      split at h
      · cases h
      · rename_i y hy
        simp only [Except.ok.injEq, Prod.mk.injEq] at h
        have h3 := pk_pos (s := s) (a := p + 3) (hexS_some hy).1
        have h4 := (hexS_some hx).2
        have h5 := (hexS_some hy).2
        omega
  · cases h

set_option maxHeartbeats 4000000 in
theorem quoted_any (B rb : Nat) (s : ByteArray) (a q : Nat) (w : World) (hb0 : Rd w rb s a q) (ha : a < s.size) (hs : s.size ≤ 140737488355328) (hB : B ≤ rb) (hT : Tabs B w) :
    Calls Tryz.prog 67 #[.pointer (some ⟨rb, 0, none⟩)] w fun x w' => RdPost rb s q w (txtS s a) VT.val x w' := by
  obtain ⟨i0, Kd⟩ := kindB
  have hrb := hb0.lt
  have hal : Below w.heap.size w (w.alloc (.cells #[.int .i64 0, .int .i64 0, .string ⟨#[]⟩, .slice none 0 0] 24)) := (Below.refl _ _).alloc (Nat.le_refl _) _
  have hR0 := Box.below hb0 hal
  have HT := hid hT
  have x1 := hR0.cell 1
  have f1 := hR0.frozen 1
  simp at x1
  have hw1 : IntKind.i64.wrap ((a : Int) + 1) = (a : Int) + 1 := by rw [IntKind.wrap_i64]; omega
  have hwz : (w.setCell ⟨rb, 1, none⟩ (.int .i64 ((a : Int) + 1))).heap.size = w.heap.size := by simp [World.setCell]
  have HRs := hid (Box.below (Rd.to hb0 ((a : Int) + 1) (a + 1) (by omega)) ((Below.refl _ _).alloc (Nat.le_refl _) (.cells #[.int .i64 0, .int .i64 0, .string ⟨#[]⟩, .slice none 0 0] 24)))
  have HKs := hid (((But.one w rb).setAt 1 (.int .i64 ((a : Int) + 1))).alloc (.cells #[.int .i64 0, .int .i64 0, .string ⟨#[]⟩, .slice none 0 0] 24))
  have hZs := Box.new (w.setCell ⟨rb, 1, none⟩ (.int .i64 ((a : Int) + 1))) #[.int .i64 0, .int .i64 0, .string ⟨#[]⟩, .slice none 0 0] 24
  rw [hwz] at hZs
  have HZs := hid hZs
  clear hZs hwz
  obtain ⟨R, hRq⟩ : ∃ R, quoS s (s.size + 1) (a + 1) [] = R := ⟨_, rfl⟩
  have HX : Hid (txtS s a = txtOf a R) := by unfold Hid txtS; rw [hRq]
  have HQ0 := hid hRq
  have hne : w.heap.size ≠ rb := by omega
  clear hb0 hal hT hR0 hRq
  go_enter Tryz.func67, Tryz.ntmps67
  go_wp2_with fail
  go_step3
  go_wp2_with fail
  go_step3
  go_wp2_with fail
  go_loopw [4] (fun v wr => ∃ (p k : Nat) (zs : List Int), p ≤ s.size ∧ s.size < p + k ∧ zs.length ≤ p ∧ quoS s k p zs = R ∧ Rd wr rb s p q ∧ Box wr w.heap.size #[.int .i64 0, .int .i64 0, .string ⟨#[]⟩, .slice none 0 0] 24 ∧ OwnBy (w.heap.size + 1) wr v zs ∧ But (fun y => y = rb) w wr) (fun _ wr => s.size - plc wr rb)
  case atStart => exact ⟨a + 1, s.size + 1, [], ha, by omega, Nat.zero_le _, HQ0.out, HRs.out, HZs.out, ⟨by simp, .inl ⟨rfl, rfl⟩⟩, HKs.out⟩
  case round =>
    obtain ⟨p, k, zs, hp, hk, hzp, hq, hrd, hbx, hown, hbut⟩ := hrel
    obtain ⟨k, rfl⟩ : ∃ k', k = k' + 1 := ⟨k - 1, by omega⟩
    clear HRs HKs HZs HQ0 x1 f1 hw1
    have HP := hid (peek_any rb s p q wr hrd hp)
    have hwl := hbx.lt
    obtain ⟨c, hc⟩ : ∃ c, pk s p = c := ⟨_, rfl⟩
    have hclt : c < 256 := by rw [← hc]; exact pk_lt s _
    rw [hc] at HP
    have hpc : c ≠ 0 → p < s.size := fun h => pk_pos (by rw [hc]; exact h)
    have HQ : Hid ((if c = 34 then .ok (zs, p + 1)
      else if c = 92 then (match escS s p with
        | .error e => .error e
        | .ok (b, a') => quoS s k a' (zs ++ [(b : Int)]))
      else if c < 32 ∨ c = 127 then .error (p, 28)
      else if badR s p then .error (p, 28)
      else quoS s k (p + (Utf8.decode s p).2) (zs ++ txtB (s.extract p (p + (Utf8.decode s p).2)))) = R) := by
      unfold Hid
      rw [← hq, ← hc]
      rfl
    have HM : Hid (plc wr rb = p) := hrd.plc
    have HR := hid hrd
    have HZ := hid hbx
    have HO := hid hown
    have HK := hid hbut
    clear hrd hbx hown hbut hq hc
    go_wp2_with fail
    refine HP.out.mono ?_
    rintro e w1 ⟨rfl, hb1⟩
    have hs1 := hb1.size
    have HR1 := hid (HR.out.below hb1)
    have HZ1 := hid (HZ.out.below hb1)
    have HO1 := hid (HO.out.below hb1)
    have HK1 := hid (HK.out.trans (But.ofBelow hb1))
    clear HP HR HZ HO HK hb1
    by_cases h34 : c = 34
    · subst h34
      have hR : R = .ok (zs, p + 1) := by have h := HQ.out; rw [if_pos rfl] at h; exact h.symm
      have hlt := hpc (by decide)
      have y1 := HR1.out.cell 1
      have g1 := HR1.out.frozen 1
      simp at y1
      obtain ⟨pv, cv, rfl⟩ := own_len HO1.out
      have hw1 : IntKind.i64.wrap ((p : Int) + 1) = (p : Int) + 1 := by rw [IntKind.wrap_i64]; omega
      have HRs := hid (Rd.to HR1.out ((p : Int) + 1) (p + 1) (by omega))
      have HKs := hid (HK1.out.setAt 1 (.int .i64 ((p : Int) + 1)))
      have HZs := hid (Box.but HZ1.out ((But.one _ rb).setAt 1 (.int .i64 ((p : Int) + 1))) (fun h => by omega))
      have HOs := hid (own_but HO1.out ((But.one _ rb).setAt 1 (.int .i64 ((p : Int) + 1))) (by omega))
      by_cases h24 : 24 < zs.length
      · have h24' : (24 : Int) < (zs.length : Int) := by omega
        have HXe : Hid (txtS s a = .error (a, 21)) := by unfold Hid; rw [HX.out, hR]; show (if _ then _ else _) = _; rw [if_pos h24]
        have HG := hid (fun W => giveUp_any ((a : Nat) : Int) 21 W)
        clear hR
        go_wp2_with fail
        refine (HG.out _).mono ?_
        rintro e w5 ⟨rfl, hw5⟩
        subst w5
        exact ⟨rfl, RdPost.err HXe.out rfl HKs.out⟩
      · have h24' : ¬ (24 : Int) < (zs.length : Int) := by omega
        have HXe : Hid (txtS s a = .ok (mkT (strOf zs), p + 1)) := by unfold Hid; rw [HX.out, hR]; show (if _ then _ else _) = _; rw [if_neg h24]
        have hcv := conv_own HOs.out
        have q0 := HZs.out.cell 0
        have q1 := HZs.out.cell 1
        have q2 := HZs.out.cell 2
        have q3 := HZs.out.cell 3
        have r0 := HZs.out.frozen 0
        have r1 := HZs.out.frozen 1
        have r2 := HZs.out.frozen 2
        have r3 := HZs.out.frozen 3
        have v0 := HZ1.out.cell 0
        have v1 := HZ1.out.cell 1
        have v2 := HZ1.out.cell 2
        have v3 := HZ1.out.cell 3
        have vf0 := HZ1.out.frozen 0
        have vf1 := HZ1.out.frozen 1
        have vf2 := HZ1.out.frozen 2
        have vf3 := HZ1.out.frozen 3
        simp at q0 q1 q2 q3 v0 v1 v2 v3
        have hne2 : rb ≠ w.heap.size := by omega
        have HRf := hid (show Rd (set4 (w1.setCell ⟨rb, 1, none⟩ (.int .i64 ((p : Int) + 1))) w.heap.size (mkT (strOf zs))) rb s (p + 1) q from Box.but HRs.out (set4_but (X := fun y => y = w.heap.size) (mkT (strOf zs)) (But.one _ w.heap.size) (fun _ => rfl)) (fun h => by omega))
        have HKf := hid (set4_but (b := w.heap.size) (mkT (strOf zs)) HKs.out (fun h => by omega))
        clear hR HR1 HZ1 HO1 HK1 HRs HKs HZs HOs
        go_wp2
        refine bodyPost_ret (v := .agg #[.int .i64 2, .int .i64 0, .string (strOf zs), .slice none 0 0]) (by simp [results, Tryz.results67, go_sem, q0, q1, q2, q3]) rfl ?_
        exact RdPost.ok HXe.out rfl HRf.out HKf.out
    have e34 : ((c : Int) == 34) = false := by simp; omega
    by_cases h92 : c = 92
    · subst h92
      have hlt := hpc (by decide)
      have HEs := hid (escaped_any rb s p q w1 HR1.out hlt hs)
      have HQ2 : Hid ((match escS s p with
        | .error e => .error e
        | .ok (b, a') => quoS s k a' (zs ++ [(b : Int)])) = R) := by
        unfold Hid
        have h := HQ.out
        rw [if_neg (by decide), if_pos rfl] at h
        exact h
      clear HQ hpc
      go_wp2_with fail
      refine HEs.out.mono ?_
      intro x w2 hPo
      clear HEs
      cases hes : escS s p with
      | error pe =>
        obtain ⟨pp, ee⟩ := pe
        obtain ⟨hx, hk2⟩ := hPo.2 pp ee hes
        have HXe : Hid (txtS s a = .error (pp, ee)) := by unfold Hid; have h := HQ2.out; rw [hes] at h; rw [HX.out, ← h]; rfl
        have HKe := hid (HK1.out.trans hk2)
        unfold FailsAt at hx
        subst hx
        exact ⟨rfl, RdPost.err HXe.out rfl HKe.out⟩
      | ok ba =>
        obtain ⟨b, a'⟩ := ba
        obtain ⟨hx, hrd2, hk2⟩ := hPo.1 b a' hes
        obtain ⟨he1, he2, he3⟩ := esc_le hes
        have HQ3 : Hid (quoS s k a' (zs ++ [(b : Int)]) = R) := by unfold Hid; have h := HQ2.out; rw [hes] at h; exact h
        have hs2 := hk2.size
        have HO2 := hid (own_but HO1.out hk2 (by omega))
        have HZ2 := hid (HZ1.out.but hk2 hne)
        have HR2 := hid hrd2
        have HK2 := hid (HK1.out.trans hk2)
        have hrow2 : w2.ownsRow (w.heap.size + 1) 5 1 u4 zs.length (zs.map (Value.int .u8)) := HO2.out
        subst hx
        clear hPo hes hrd2 hk2 HQ2 HR1 HZ1 HO1 HK1
        go_wp2_with (at_builtin; refine wpList_app rfl (.tmp 26) (.tmp 29) 25 5 i0 _ 1 1 Kd rfl (w.heap.size + 1) u4 zs.length _ rfl (hrow2.alloc _) ⟨w2.heap.size, 0, none⟩ 1 1 [.int .u8 (b : Int)] rfl rfl (cell_one_new _ _ _) (one8 _) (by omega) (by omega) (by simp; omega) ?_)
        intro v3 w3 ho3 hg3 hn3
        have ha3 : Below w2.heap.size w2 (w2.alloc (.cells #[.int .u8 (b : Int)] 5)) := (Below.refl _ _).alloc (Nat.le_refl _) _
        obtain ⟨hR3, hZ3, hK3⟩ := rd_grown (w := w) (HO2.out.below ha3) (HR2.out.below ha3) (HZ2.out.below ha3) (HK2.out.trans (But.ofBelow ha3)) rfl hg3
        have HF := hid (And.intro hR3 (And.intro hZ3 (And.intro (HO2.out.one ho3) hK3)))
        clear ho3 hg3 hn3 ha3 hR3 hZ3 hK3 hrow2
        go_wp2
        go_roundw
        case rel => exact ⟨a', k, zs ++ [(b : Int)], he2, by omega, by simp; omega, HQ3.out, HF.out.1, HF.out.2.1, HF.out.2.2.1, HF.out.2.2.2⟩
        case measure => rw [HF.out.1.plc, HM.out]; omega
    have e92 : ((c : Int) == 92) = false := by simp; omega
    have y0 := HR1.out.cell 0
    have y1 := HR1.out.cell 1
    have g1 := HR1.out.frozen 1
    simp at y0 y1
    by_cases h32 : c < 32
    · have h32' : (c : Int) < 32 := by omega
      have HXe : Hid (txtS s a = .error (p, 28)) := by unfold Hid; have h := HQ.out; rw [if_neg h34, if_neg h92, if_pos (Or.inl h32)] at h; rw [HX.out, ← h]; rfl
      have HG := hid (fun W => giveUp_any ((p : Nat) : Int) 28 W)
      clear HQ
      go_wp2_with fail
      refine (HG.out _).mono ?_
      rintro e w5 ⟨rfl, hw5⟩
      subst w5
      exact ⟨rfl, RdPost.err HXe.out rfl HK1.out⟩
    have h32' : ¬ (c : Int) < 32 := by omega
    by_cases h127 : c = 127
    · subst h127
      have HXe : Hid (txtS s a = .error (p, 28)) := by unfold Hid; have h := HQ.out; rw [if_neg h34, if_neg h92, if_pos (Or.inr rfl)] at h; rw [HX.out, ← h]; rfl
      have HG := hid (fun W => giveUp_any ((p : Nat) : Int) 28 W)
      clear HQ
      go_wp2_with fail
      refine (HG.out _).mono ?_
      rintro e w5 ⟨rfl, hw5⟩
      subst w5
      exact ⟨rfl, RdPost.err HXe.out rfl HK1.out⟩
    have e127 : ((c : Int) == 127) = false := by simp; omega
    have hlt := hpc (by omega)
    have hTw : Tabs w1.heap.size w1 := (HT.out.on (HK1.out.below (B := B) (by omega) (fun j hj => by omega))).mono (by omega)
    have HW := hid (width_any rb s p q w1 HR1.out hlt hTw)
    obtain ⟨hd1, hd2, hd3⟩ := dec_width s p
    have hd3 := hd3 hlt
    have hex : (s.extract p (p + (Utf8.decode s p).2)).size = (Utf8.decode s p).2 := by rw [ByteArray.size_extract]; omega
    have HQ2 : Hid ((if badR s p then .error (p, 28) else quoS s k (p + (Utf8.decode s p).2) (zs ++ txtB (s.extract p (p + (Utf8.decode s p).2)))) = R) := by
      unfold Hid
      have h := HQ.out
      rw [if_neg h34, if_neg h92, if_neg (by omega)] at h
      exact h
    clear HQ hpc hTw
    generalize (Utf8.decode s p).2 = D at *
    go_wp2_with fail
    refine HW.out.mono ?_
    rintro x w2 ⟨hwp, hb2⟩
    clear HW
    by_cases hbad : badR s p
    · have hx := hwp.1 hbad
      have HXe : Hid (txtS s a = .error (p, 28)) := by unfold Hid; have h := HQ2.out; rw [if_pos hbad] at h; rw [HX.out, ← h]; rfl
      have HKe := hid (HK1.out.trans (But.ofBelow hb2))
      unfold FailsAt at hx
      subst hx
      exact ⟨rfl, RdPost.err HXe.out rfl HKe.out⟩
    · have hx := hwp.2 hbad
      subst hx
      have HQ3 : Hid (quoS s k (p + D) (zs ++ txtB (s.extract p (p + D))) = R) := by unfold Hid; have h := HQ2.out; rw [if_neg hbad] at h; exact h
      have hs2 := hb2.size
      have HR2 := hid (HR1.out.below hb2)
      have HZ2 := hid (HZ1.out.below hb2)
      have HO2 := hid (HO1.out.below hb2)
      have HK2 := hid (HK1.out.trans (But.ofBelow hb2))
      have z0 := HR2.out.cell 0
      have z1 := HR2.out.cell 1
      simp at z0 z1
      have hrow2 : ((w2.drew).ownsRow (w.heap.size + 1) 5 1 u4 zs.length (zs.map (Value.int .u8))) := HO2.out.below (Below.refl _ _).drew
      have hpD : IntKind.i64.wrap ((p : Int) + (D : Int)) = (p : Int) + (D : Int) := by rw [IntKind.wrap_i64]; omega
      have hi1 : (p : Int) ≤ (p : Int) + (D : Int) := by omega
      have hi2 : (p : Int) + (D : Int) ≤ (s.size : Int) := by omega
      have HEx := hid hex
      clear hwp hbad hb2 HQ2 HR1 HZ1 HO1 HK1 y0 y1 g1 hex
      go_wp2_with fail
      go_region_law (refine step_apps rfl (.tmp 45) (.tmp 60) rfl (w.heap.size + 1) i0 Kd u4 zs.length _ rfl hrow2 (s.extract p (p + D)) (by simp [Act.eval, Act.put]; exact congrArg (s.extract p) (by omega)) (by rw [HEx.out]; omega) (by simp; omega) ?_
                     intro v3 w3 ho3 hg3)
      all_goals
        have ha3 : Below w2.heap.size w2 w2.drew := (Below.refl _ _).drew
        obtain ⟨hR3, hZ3, hK3⟩ := rd_grown (w := w) (HO2.out.below ha3) (HR2.out.below ha3) (HZ2.out.below ha3) (HK2.out.trans (But.ofBelow ha3)) rfl hg3
        have hO3 : OwnBy (w.heap.size + 1) w3 v3 (zs ++ txtB (s.extract p (p + D))) := HO2.out.app (ys := txtB (s.extract p (p + D))) (by rw [txtB_len, ← strCells_txt]; exact ho3)
        have u1 := hR3.cell 1
        have uf := hR3.frozen 1
        simp at u1
        have hRs := Rd.to hR3 ((p : Int) + (D : Int)) (p + D) (by omega)
        have hKs := hK3.setAt 1 (.int .i64 ((p : Int) + (D : Int)))
        have hZs := Box.but hZ3 ((But.one _ rb).setAt 1 (.int .i64 ((p : Int) + (D : Int)))) (fun h => by omega)
        have hOs := own_but hO3 ((But.one _ rb).setAt 1 (.int .i64 ((p : Int) + (D : Int)))) (by omega)
        have HF := hid (And.intro hRs (And.intro hZs (And.intro hOs hKs)))
        clear ho3 hg3 ha3 hR3 hZ3 hK3 hrow2 hRs hKs hZs hOs hO3
        go_wp2
        go_roundw
        case rel => exact ⟨p + D, k, zs ++ txtB (s.extract p (p + D)), by omega, by omega, by rw [List.length_append, txtB_len, HEx.out]; omega, HQ3.out, HF.out.1, HF.out.2.1, HF.out.2.2.1, HF.out.2.2.2⟩
        case measure => rw [HF.out.1.plc, HM.out]; omega
end Go.Proofs.YtdmhemofhmfkoabGreatDoor
