import Derived.Test.YtebiidfdokhpaabGreatDoorEfK
import Derived.Test.YtebiidfdokhpaabGreatDoorPack28
namespace Go.Proofs.YtebiidfdokhpaabGreatDoor
open Go.RowKit
set_option maxRecDepth 8000
theorem RkI.put3 {w w2 : World} {C : Nat → Prop} {rb : Nat} {R : RK} {s : ByteArray} {i g : Nat} {f f' : RF} (h : RkI w C rb R) (hi : R.is s i f) (hab : R.ab g) (hn : f'.name = f.name) (hb2 : But f.blk w w2)
    (hs : OwnBy 0 w2 (.slice f'.sp f'.su.length f'.sc) f'.su) (hl : OwnBy 0 w2 (.slice f'.lp f'.lo.length f'.lc) f'.lo) (hnew : ∀ k, f'.blk k → f.blk k ∨ w.heap.size ≤ k)
    (hne : ∀ g, f'.sb g → ¬ f'.lb g) (hle : f'.su.length + f'.lo.length ≤ 65536) (hby : ∀ z ∈ f'.su ++ f'.lo, 0 ≤ z ∧ z ≤ 255) :
    RC { R.ak with ks := updK s f'.key (R.fs.map RF.key) } C rb w (((w2.setCell ⟨g, i * 3, none⟩ (.string f'.name)).setCell ⟨g, i * 3 + 1, none⟩ (.slice f'.sp f'.su.length f'.sc)).setCell ⟨g, i * 3 + 2, none⟩ (.slice f'.lp f'.lo.length f'.lc)).drew := by
  refine h.put hi hn hb2 ((((But.refl R.ab w2).setCell (p := ⟨g, i * 3, none⟩) (fun _ => hab) _).setCell (p := ⟨g, i * 3 + 1, none⟩) (fun _ => hab) _).setCell (p := ⟨g, i * 3 + 2, none⟩) (fun _ => hab) _).drew hs hl hnew hne hle hby ?_
  rw [flatR_set R.fs i f f' hi.1 hn]
  have h0 : (R.fs.flatMap RF.cells).set (i * 3) (.string f'.name) = R.fs.flatMap RF.cells := set_get_self (by have := flatR_get R.fs i 0 f hi.1 (by omega); rw [Nat.add_zero] at this; rw [this, hn]; rfl)
  have h1 := row_put (h.row2 hi hb2) hab (i * 3) (.string f'.name)
  rw [h0] at h1
  exact row_put (row_put h1 hab _ _) hab _ _
/-- the key of a file that is cut -/
def trK (s : ByteArray) (f : RF) (m : Nat) : Key := (s, (f.su ++ f.lo).take m, ((min f.su.length m : Nat) : Int))
def TrQ (R : RK) (s : ByteArray) (size : Int) (C : Nat → Prop) (rb : Nat) (w : World) (e : Ending) (w' : World) : Prop :=
  e = .returned (.int .i64 (thE R s)) ∧ ((thE R s ≠ 0 ∧ RigR (thR R s) C rb w w') ∨ (thE R s = 0 ∧ ∃ i f, R.is s i f ∧ RC { (thR R s).ak with ks := updK s (trK s f size.toNat) (R.fs.map RF.key) } C rb w w'))
theorem range_getD (l : List Int) (m k : Nat) (h : m + k ≤ l.length) : (List.range k).map (fun j => l.getD (m + j) 0) = (l.drop m).take k := by
  apply List.ext_getElem?
  intro j
  by_cases hj : j < k
  · rw [List.getElem?_map, List.getElem?_range hj, List.getElem?_take_of_lt hj, List.getElem?_drop]
    simp [List.getD_eq_getElem?_getD, List.getElem?_eq_getElem (show m + j < l.length by omega)]
  · rw [List.getElem?_eq_none (by simp; omega), List.getElem?_eq_none (by simp; omega)]
/-- fresh of a row's first bytes -/
theorem rfreshT (p : Option Addr) (c : Nat) (zs : List Int) (m : Nat) (w : World) (hO : OwnBy 0 w (.slice p zs.length c) zs) (hz : ∀ z ∈ zs, 0 ≤ z ∧ z ≤ 255) (hm : m ≤ zs.length) (hle : zs.length ≤ 65536) :
    Calls Tryz.prog 24 #[.slice p zs.length c, .int .i64 0, .int .i64 (m : Int)] w fun e w' => ∃ (p' : Option Addr) (c' : Nat), e = .returned (.slice p' m c') ∧ OwnBy w.heap.size w' (.slice p' m c') (zs.take m) ∧ Below w.heap.size w w' := by
  refine (rfresh_any p zs.length c 0 m (fun j => zs.getD j 0) w (fun _ => True) (own_byts hO (fun _ _ => trivial) hz (by omega)) (Nat.zero_le _) hm hle).mono ?_
  rintro e w' ⟨p', c', rfl, h1, h2⟩
  rw [Nat.sub_zero] at h1 ⊢
  rw [range_getD zs 0 m (by omega), List.drop_zero] at h1
  exact ⟨p', c', rfl, h1, h2⟩
set_option maxHeartbeats 8000000 in
theorem rtrim_any (R : RK) (s : ByteArray) (size : Int) (w : World) (C : Nat → Prop) (rb : Nat) (hR : RkI w C rb R) (hmx : s.size ≤ 140737488355328) (hz : -9223372036854775808 ≤ size ∧ size ≤ 9223372036854775807) :
    Calls Tryz.prog 38 #[.pointer (some ⟨rb, 0, none⟩), .string s, .int .i64 size] w fun e w' => TrQ R s size C rb w e w' := by
  have HT := hid (rthereP_any R s w C rb hR hmx)
  clear hR
  go_enter Tryz.func38, Tryz.ntmps38
  go_wp2_with fail
  refine HT.out.mono ?_
  rintro e w2 ⟨hR2, ⟨h0, rfl⟩ | ⟨h0, i, f, hi, rfl⟩⟩
  · obtain ⟨q, hq⟩ : ∃ q, q = thE R s := ⟨_, rfl⟩
    rw [← hq] at h0 ⊢
    have HQ := hid hq
    have h0' : (q == 0) = false := by simpa using h0
    have H0 := hid h0
    have HR2 := hid hR2
    clear hq h0 hR2 HT
    go_wp2
    exact bodyPost_ret (v := .int .i64 q) (by simp [results, Tryz.results38, go_sem]) rfl ⟨by rw [← HQ.out], .inl ⟨by rw [← HQ.out]; exact H0.out, HR2.out⟩⟩
  · have HR2 := hid hR2
    have H0 := hid h0
    have HIs := hid hi
    obtain ⟨R2, hRe⟩ : ∃ R2, R2 = thR R s := ⟨_, rfl⟩
    have HFs : Hid (R2.fs = R.fs) := by show R2.fs = R.fs; rw [hRe]; exact (thR_fs R s).1
    have HIk : Hid (RkI w2 C rb R2) := by show RkI _ _ _ _; rw [hRe]; exact hR2.1
    have HI2 : Hid (R2.is s i f) := ⟨by rw [HFs.out]; exact hi.1, hi.2⟩
    have HRe := hid hRe
    clear hRe hi h0 hR2 HT
    obtain ⟨g, hp, hab, hrg, hil, hnl, hF, hAt⟩ := HIk.out.getAt HI2.out
    have HF := hid hF
    have HAt := hid hAt
    have HAb := hid hab
    have HPp := hid hp
    have hil' : (i : Int) < (R2.fs.length : Int) := by omega
    have hle := HF.out.le
    clear hF hAt hab hp
    obtain ⟨r0, rl, a0, a1, a2, gf, gl⟩ := HAt.out
    have HMv : Hid (∀ wx, But f.blk w2 wx → At wx R2 rb g i f) := fun wx hx => HIk.out.moveAt HI2.out HAb.out HAt.out hx
    have hmax : max size 0 = ((size.toNat : Nat) : Int) := by omega
    obtain ⟨m, hm⟩ : ∃ m, m = size.toNat := ⟨_, rfl⟩
    rw [← hm] at hmax
    have HM := hid hm
    have hmb : (m : Int) ≤ 9223372036854775807 := by omega
    clear hm
    obtain ⟨W3, hW3⟩ : ∃ V, V = w2.alloc (.cells #[.string f.name, .slice f.sp f.su.length f.sc, .slice f.lp f.lo.length f.lc] 77) := ⟨_, rfl⟩
    have HB3 : Hid (Below w2.heap.size w2 W3) := by show Below _ _ _; rw [hW3]; exact (Below.refl _ _).alloc (Nat.le_refl _) _
    have HX3 : Hid (Box W3 w2.heap.size #[.string f.name, .slice f.sp f.su.length f.sc, .slice f.lp f.lo.length f.lc] 77) := by show Box _ _ _ _; rw [hW3]; exact Box.new _ _ _
    have HW3 := hid hW3
    clear hW3 r0 rl a0 a1 a2 gf gl
    obtain ⟨r0, rl, a0, a1, a2, gf, gl⟩ := HAt.out
    clear gf
    have hif : (if size < 0 then 0 else size) = (m : Int) := by
      split <;> omega
    go_upto_region 6 with fail
    rw [← HW3.out]
    have HS3 : Hid (OwnBy 0 W3 (.slice f.sp f.su.length f.sc) f.su) := HF.out.s.below HB3.out
    have HL3 : Hid (OwnBy 0 W3 (.slice f.lp f.lo.length f.lc) f.lo) := HF.out.l.below HB3.out
    have hsz3 : w2.heap.size < W3.heap.size := HX3.out.lt
    have b0 := HX3.out.cell 0
    have b1 := HX3.out.cell 1
    have b2 := HX3.out.cell 2
    have bg1 := HX3.out.frozen 1
    have bg2 := HX3.out.frozen 2
    simp at b0 b1 b2
    clear r0 rl a0 a1 a2 gl hif hmax
    by_cases hA : m < f.su.length
    · have hA' : (m : Int) < (f.su.length : Int) := by omega
      have HFr := hid (rfreshT f.sp f.sc f.su m W3 HS3.out (fun z hz => HF.out.by_ z (List.mem_append_left _ hz)) (by omega) (by omega))
      go_wp2_with fail
      refine HFr.out.mono ?_
      rintro e w4 ⟨p4, c4, rfl, ho4, hb4⟩
      have HO4 := hid ho4
      have HB4 := hid hb4
      have HX4 := hid (HX3.out.below hb4)
      clear ho4 hb4 HFr b0 b1 b2 bg1 bg2
      have b0 := HX4.out.cell 0
      have b1 := HX4.out.cell 1
      have b2 := HX4.out.cell 2
      have bg1 := HX4.out.frozen 1
      have bg2 := HX4.out.frozen 2
      have bl := HX4.out.lt
      simp at b0 b1 b2
      obtain ⟨W6, hW6⟩ : ∃ V, V = (w4.setCell ⟨w2.heap.size, 1, none⟩ (.slice p4 m c4)).setCell ⟨w2.heap.size, 2, none⟩ (.slice none 0 0) := ⟨_, rfl⟩
      have HX6 : Hid (Box W6 w2.heap.size #[.string f.name, .slice p4 m c4, .slice none 0 0] 77) := by
        show Box _ _ _ _
        rw [hW6]
        simpa using (HX4.out.set 1 (.slice p4 m c4)).set 2 (.slice none 0 0)
      have hbl6 : But (fun k => k = w2.heap.size) w4 W6 := by rw [hW6]; exact ((But.one _ _).setAt 1 _).setAt 2 _
      have hb24 : Below w2.heap.size w2 w4 := HB3.out.trans (HB4.out.mono HB3.out.size)
      have HB6 : Hid (But f.blk w2 W6) := But.ofBelow (hb24.trans (hbl6.below hb24.size fun k hk e => by have e' : k = w2.heap.size := e; omega))
      have hml : (f.su.take m).length = m := by simp; omega
      have hnb : ∀ k, (Value.slice p4 m c4).ownBlock = some k → W3.heap.size ≤ k := fun k hk => (HO4.out.lt k hk).1
      have HQs : Hid (OwnBy 0 W6 (.slice p4 (f.su.take m).length c4) (f.su.take m)) := by
        show OwnBy _ _ _ _
        rw [hml]
        exact ownBy_ge (ownsRow_keep HO4.out fun k hk hl => hbl6.block k hl fun e => by have e' : k = w2.heap.size := e; have := hnb k hk; omega) (Nat.zero_le _)
      have HQl : Hid (OwnBy 0 W6 (.slice none 0 0) []) := World.ownsRow_nil _ _ _ _
      have HQn : Hid (∀ k, (⟨f.name, p4, c4, f.su.take m, none, 0, []⟩ : RF).blk k → f.blk k ∨ w2.heap.size ≤ k) := by
        rintro k (hk | hk)
        · have hk' : (Value.slice p4 (f.su.take m).length c4).ownBlock = some k := hk
          rw [hml] at hk'
          exact .inr (by have := hnb k hk'; omega)
        · cases hk
      have HQe : Hid (∀ k, (⟨f.name, p4, c4, f.su.take m, none, 0, []⟩ : RF).sb k → ¬ (⟨f.name, p4, c4, f.su.take m, none, 0, []⟩ : RF).lb k) := fun k _ hk => by cases hk
      have HQb : Hid ((f.su.take m).length + ([] : List Int).length ≤ 65536) := by show (f.su.take m).length + ([] : List Int).length ≤ 65536; simp; omega
      have HQy : Hid (∀ z ∈ f.su.take m ++ [], 0 ≤ z ∧ z ≤ 255) := fun z hz => HF.out.by_ z (List.mem_append_left _ (List.mem_of_mem_take (by simpa using hz)))
      have HQk : Hid ((⟨f.name, p4, c4, f.su.take m, none, 0, []⟩ : RF).key = trK s f size.toNat) := by
        show (f.name, f.su.take m ++ [], ((f.su.take m).length : Int)) = trK s f size.toNat
        rw [← HM.out, trK, hml, HI2.out.2, List.append_nil, List.take_append_of_le_length (by omega), Nat.min_eq_right (by omega)]
      have HW6 := hid hW6
      clear hW6 hbl6 hb24 hnb
      go_upto_region 11 with fail
      rw [← HW6.out]
      clear b0 b1 b2 bg1 bg2 bl
      have HA6 := hid (HMv.out W6 HB6.out)
      obtain ⟨z0, zl, z1, z2, z3, zf, zg⟩ := HA6.out
      have b0 := HX6.out.cell 0
      have b1 := HX6.out.cell 1
      have b2 := HX6.out.cell 2
      have bl := HX6.out.lt
      simp at b0 b1 b2
      have zf0 := zf (i * 3)
      have zf1 := zf (i * 3 + 1)
      have zf2 := zf (i * 3 + 2)
      clear zf
      refine wp_region_calmE 30 (fun wx => Below W6.heap.size W6 wx) [(0, true), (1, true), (2, true), (3, false), (4, true), (5, false), (6, true)] (.one 7 false [] .done) (by kernel_rfl) (by kernel_rfl) (Below.refl _ _).drew ?_
      refine wpPre_e rfl rfl (fun K1 hK1 => ?_)
      apply Exists.intro
      refine And.intro (fun wx hx => ?_) ?_
      · go_simp
        try rfl
      go_simp
      refine hK1 _ ?_
      clear hK1 K1
      refine wpPre_e rfl rfl (fun K1 hK1 => ?_)
      apply Exists.intro
      refine And.intro (fun wx hx => ?_) ?_
      · go_simp
        try rfl
      go_simp
      refine hK1 _ ?_
      clear hK1 K1
      refine wpPre_e rfl rfl (fun K1 hK1 => ?_)
      apply Exists.intro
      refine And.intro (fun wx hx => ?_) ?_
      · go_simp
        try rfl
      go_simp
      refine hK1 _ ?_
      clear hK1 K1
      refine wpPre_e rfl rfl (fun K1 hK1 => ?_)
      apply Exists.intro
      refine And.intro (fun wx hx => ?_) ?_
      · have e0 := below_fact hx rfl z0
        go_simp
        try rfl
      go_simp
      refine hK1 _ ?_
      clear hK1 K1
      refine wpPre_e rfl rfl (fun K1 hK1 => ?_)
      apply Exists.intro
      refine And.intro (fun wx hx => ?_) ?_
      · go_simp
        try rfl
      go_simp
      refine hK1 _ ?_
      clear hK1 K1
      refine wpPre_e rfl rfl (fun K1 hK1 => ?_)
      apply Exists.intro
      refine And.intro (fun wx hx => ?_) ?_
      · have e0 := below_fact hx rfl b0
        have e1 := below_fact hx rfl b1
        have e2 := below_fact hx rfl b2
        go_simp
        try rfl
      go_simp
      refine hK1 _ ?_
      clear hK1 K1
      refine wpPre_e rfl rfl (fun K1 hK1 => ?_)
      apply Exists.intro
      refine And.intro (fun wx hx => ?_) ?_
      · go_simp
        try rfl
      go_simp
      refine hK1 _ ?_
      clear hK1 K1
      refine wpPre_nil ?_
      refine wpTr_e rfl (fun K1 hK1 => ?_)
      go_simp
      refine hK1 _ _ (fun h => by cases h) ?_
      clear hK1 K1
      refine wpPre_nil ?_
      refine wpTr_done ?_
      go_wp2
      refine bodyPost_ret (v := .int .i64 0) (by simp [results, Tryz.results38, go_sem]) rfl ⟨by rw [H0.out], .inr ⟨H0.out, i, f, HIs.out, ?_⟩⟩
      rw [← HFs.out, ← HRe.out]
      refine RC.rigs HR2.out ?_
      have hE := HIk.out.put3 (f' := ⟨f.name, p4, c4, f.su.take m, none, 0, []⟩) (s := s) HI2.out HAb.out rfl HB6.out HQs.out HQl.out HQn.out HQe.out HQb.out HQy.out
      rw [HQk.out] at hE
      simp only [hml] at hE
      exact hE
    · have hA' : ¬ (m : Int) < (f.su.length : Int) := by omega
      have hsub : (m : Int) - (f.su.length : Int) = ((m - f.su.length : Nat) : Int) := by omega
      by_cases hB : m - f.su.length < f.lo.length
      · have hB' : (m : Int) - (f.su.length : Int) < (f.lo.length : Int) := by omega
        have hsb : -9223372036854775808 ≤ (m : Int) - (f.su.length : Int) ∧ (m : Int) - (f.su.length : Int) ≤ 9223372036854775807 := by omega
        have HFr : Hid (Calls Tryz.prog 24 #[.slice f.lp f.lo.length f.lc, .int .i64 0, .int .i64 ((m : Int) - (f.su.length : Int))] W3 fun e w' => ∃ (p' : Option Addr) (c' : Nat), e = .returned (.slice p' (m - f.su.length) c') ∧ OwnBy W3.heap.size w' (.slice p' (m - f.su.length) c') (f.lo.take (m - f.su.length)) ∧ Below W3.heap.size W3 w') := by
          show Calls _ _ _ _ _
          rw [hsub]
          exact rfreshT f.lp f.lc f.lo (m - f.su.length) W3 HL3.out (fun z hz => HF.out.by_ z (List.mem_append_right _ hz)) (by omega) (by omega)
        clear hsub
        obtain ⟨m2, hm2⟩ : ∃ m2, m2 = m - f.su.length := ⟨_, rfl⟩
        rw [← hm2] at HFr
        have HM2 := hid hm2
        have hm2l : m2 ≤ f.lo.length := by omega
        clear hm2 hB
        go_wp2_with fail
        refine HFr.out.mono ?_
        rintro e w4 ⟨p4, c4, rfl, ho4, hb4⟩
        have HO4 := hid ho4
        have HB4 := hid hb4
        have HX4 := hid (HX3.out.below hb4)
        clear ho4 hb4 HFr b0 b1 b2 bg1 bg2
        have b0 := HX4.out.cell 0
        have b1 := HX4.out.cell 1
        have b2 := HX4.out.cell 2
        have bg2 := HX4.out.frozen 2
        have bl := HX4.out.lt
        simp at b0 b1 b2
        obtain ⟨W6, hW6⟩ : ∃ V, V = w4.setCell ⟨w2.heap.size, 2, none⟩ (.slice p4 m2 c4) := ⟨_, rfl⟩
        have HX6 : Hid (Box W6 w2.heap.size #[.string f.name, .slice f.sp f.su.length f.sc, .slice p4 m2 c4] 77) := by
          show Box _ _ _ _
          rw [hW6]
          simpa using HX4.out.set 2 (.slice p4 m2 c4)
        have hbl6 : But (fun k => k = w2.heap.size) w4 W6 := by rw [hW6]; exact (But.one _ _).setAt 2 _
        have hb24 : Below w2.heap.size w2 w4 := HB3.out.trans (HB4.out.mono HB3.out.size)
        have hb26 : Below w2.heap.size w2 W6 := hb24.trans (hbl6.below hb24.size fun k hk e => by have e' : k = w2.heap.size := e; omega)
        have HB6 : Hid (But f.blk w2 W6) := But.ofBelow hb26
        have hml : (f.lo.take m2).length = m2 := by simp; omega
        have hnb : ∀ k, (Value.slice p4 m2 c4).ownBlock = some k → W3.heap.size ≤ k := fun k hk => (HO4.out.lt k hk).1
        have HQs : Hid (OwnBy 0 W6 (.slice f.sp f.su.length f.sc) f.su) := HF.out.s.below hb26
        have HQl : Hid (OwnBy 0 W6 (.slice p4 (f.lo.take m2).length c4) (f.lo.take m2)) := by
          show OwnBy _ _ _ _
          rw [hml]
          exact ownBy_ge (ownsRow_keep HO4.out fun k hk hl => hbl6.block k hl fun e => by have e' : k = w2.heap.size := e; have := hnb k hk; omega) (Nat.zero_le _)
        have hlb : ∀ k, (⟨f.name, f.sp, f.sc, f.su, p4, c4, f.lo.take m2⟩ : RF).lb k → w2.heap.size ≤ k := fun k hk => by
          have hk' : (Value.slice p4 (f.lo.take m2).length c4).ownBlock = some k := hk
          rw [hml] at hk'
          have := hnb k hk'
          omega
        have HQn : Hid (∀ k, (⟨f.name, f.sp, f.sc, f.su, p4, c4, f.lo.take m2⟩ : RF).blk k → f.blk k ∨ w2.heap.size ≤ k) := by
          rintro k (hk | hk)
          · exact .inl (.inl hk)
          · exact .inr (hlb k hk)
        have HQe : Hid (∀ k, (⟨f.name, f.sp, f.sc, f.su, p4, c4, f.lo.take m2⟩ : RF).sb k → ¬ (⟨f.name, f.sp, f.sc, f.su, p4, c4, f.lo.take m2⟩ : RF).lb k) := fun k hk hk2 => by
          have h1 := (HF.out.s.lt k hk).2
          have h2 := hlb k hk2
          omega
        have HQb : Hid (f.su.length + (f.lo.take m2).length ≤ 65536) := by show f.su.length + (f.lo.take m2).length ≤ 65536; omega
        have HQy : Hid (∀ z ∈ f.su ++ f.lo.take m2, 0 ≤ z ∧ z ≤ 255) := fun z hz => HF.out.by_ z (by
          rcases List.mem_append.1 hz with h | h
          · exact List.mem_append_left _ h
          · exact List.mem_append_right _ (List.mem_of_mem_take h))
        have HQk : Hid ((⟨f.name, f.sp, f.sc, f.su, p4, c4, f.lo.take m2⟩ : RF).key = trK s f size.toNat) := by
          show (f.name, f.su ++ f.lo.take m2, (f.su.length : Int)) = trK s f size.toNat
          rw [← HM.out, trK, HI2.out.2, HM2.out, List.take_append, List.take_of_length_le (show f.su.length ≤ m by omega), Nat.min_eq_left (by omega)]
        have HW6 := hid hW6
        clear hW6 hbl6 hb24 hnb hb26 hlb
        go_upto_region 11 with fail
        rw [← HW6.out]
        clear b0 b1 b2 bg2 bl
        have HA6 := hid (HMv.out W6 HB6.out)
        obtain ⟨z0, zl, z1, z2, z3, zf, zg⟩ := HA6.out
        have b0 := HX6.out.cell 0
        have b1 := HX6.out.cell 1
        have b2 := HX6.out.cell 2
        have bl := HX6.out.lt
        simp at b0 b1 b2
        have zf0 := zf (i * 3)
        have zf1 := zf (i * 3 + 1)
        have zf2 := zf (i * 3 + 2)
        clear zf
        refine wp_region_calmE 30 (fun wx => Below W6.heap.size W6 wx) [(0, true), (1, true), (2, true), (3, false), (4, true), (5, false), (6, true)] (.one 7 false [] .done) (by kernel_rfl) (by kernel_rfl) (Below.refl _ _).drew ?_
        refine wpPre_e rfl rfl (fun K1 hK1 => ?_)
        apply Exists.intro
        refine And.intro (fun wx hx => ?_) ?_
        · go_simp
          try rfl
        go_simp
        refine hK1 _ ?_
        clear hK1 K1
        refine wpPre_e rfl rfl (fun K1 hK1 => ?_)
        apply Exists.intro
        refine And.intro (fun wx hx => ?_) ?_
        · go_simp
          try rfl
        go_simp
        refine hK1 _ ?_
        clear hK1 K1
        refine wpPre_e rfl rfl (fun K1 hK1 => ?_)
        apply Exists.intro
        refine And.intro (fun wx hx => ?_) ?_
        · go_simp
          try rfl
        go_simp
        refine hK1 _ ?_
        clear hK1 K1
        refine wpPre_e rfl rfl (fun K1 hK1 => ?_)
        apply Exists.intro
        refine And.intro (fun wx hx => ?_) ?_
        · have e0 := below_fact hx rfl z0
          go_simp
          try rfl
        go_simp
        refine hK1 _ ?_
        clear hK1 K1
        refine wpPre_e rfl rfl (fun K1 hK1 => ?_)
        apply Exists.intro
        refine And.intro (fun wx hx => ?_) ?_
        · go_simp
          try rfl
        go_simp
        refine hK1 _ ?_
        clear hK1 K1
        refine wpPre_e rfl rfl (fun K1 hK1 => ?_)
        apply Exists.intro
        refine And.intro (fun wx hx => ?_) ?_
        · have e0 := below_fact hx rfl b0
          have e1 := below_fact hx rfl b1
          have e2 := below_fact hx rfl b2
          go_simp
          try rfl
        go_simp
        refine hK1 _ ?_
        clear hK1 K1
        refine wpPre_e rfl rfl (fun K1 hK1 => ?_)
        apply Exists.intro
        refine And.intro (fun wx hx => ?_) ?_
        · go_simp
          try rfl
        go_simp
        refine hK1 _ ?_
        clear hK1 K1
        refine wpPre_nil ?_
        refine wpTr_e rfl (fun K1 hK1 => ?_)
        go_simp
        refine hK1 _ _ (fun h => by cases h) ?_
        clear hK1 K1
        refine wpPre_nil ?_
        refine wpTr_done ?_
        go_wp2
        refine bodyPost_ret (v := .int .i64 0) (by simp [results, Tryz.results38, go_sem]) rfl ⟨by rw [H0.out], .inr ⟨H0.out, i, f, HIs.out, ?_⟩⟩
        rw [← HFs.out, ← HRe.out]
        refine RC.rigs HR2.out ?_
        have hE := HIk.out.put3 (f' := ⟨f.name, f.sp, f.sc, f.su, p4, c4, f.lo.take m2⟩) (s := s) HI2.out HAb.out rfl HB6.out HQs.out HQl.out HQn.out HQe.out HQb.out HQy.out
        rw [HQk.out] at hE
        simp only [hml] at hE
        exact hE
      · have hB' : ¬ (m : Int) - (f.su.length : Int) < (f.lo.length : Int) := by omega
        have hsb : -9223372036854775808 ≤ (m : Int) - (f.su.length : Int) ∧ (m : Int) - (f.su.length : Int) ≤ 9223372036854775807 := by omega
        have HQs : Hid (OwnBy 0 W3 (.slice f.sp f.su.length f.sc) f.su) := HS3.out
        have HQl : Hid (OwnBy 0 W3 (.slice f.lp f.lo.length f.lc) f.lo) := HL3.out
        have HQn : Hid (∀ k, f.blk k → f.blk k ∨ w2.heap.size ≤ k) := fun k hk => .inl hk
        have HQe : Hid (∀ k, f.sb k → ¬ f.lb k) := HF.out.ne
        have HQb : Hid (f.su.length + f.lo.length ≤ 65536) := HF.out.le
        have HQy : Hid (∀ z ∈ f.su ++ f.lo, 0 ≤ z ∧ z ≤ 255) := HF.out.by_
        have HQk : Hid (f.key = trK s f size.toNat) := by
          show (f.name, f.su ++ f.lo, (f.su.length : Int)) = trK s f size.toNat
          rw [← HM.out, trK, HI2.out.2, List.take_of_length_le (by simp; omega), Nat.min_eq_left (by omega)]
        have HB6 : Hid (But f.blk w2 W3) := But.ofBelow HB3.out
        have HX6 := HX3
        obtain ⟨W6, hW6⟩ : ∃ V, V = W3 := ⟨_, rfl⟩
        rw [← hW6] at HQs HQl HB6 HX6 b0 b1 b2 bg1 bg2 ⊢
        clear hW6 hsub hB
        go_upto_region 11 with fail
        clear b0 b1 b2 bg1 bg2
        have HA6 := hid (HMv.out W6 HB6.out)
        obtain ⟨z0, zl, z1, z2, z3, zf, zg⟩ := HA6.out
        have b0 := HX6.out.cell 0
        have b1 := HX6.out.cell 1
        have b2 := HX6.out.cell 2
        have bl := HX6.out.lt
        simp at b0 b1 b2
        have zf0 := zf (i * 3)
        have zf1 := zf (i * 3 + 1)
        have zf2 := zf (i * 3 + 2)
        clear zf
        refine wp_region_calmE 30 (fun wx => Below W6.heap.size W6 wx) [(0, true), (1, true), (2, true), (3, false), (4, true), (5, false), (6, true)] (.one 7 false [] .done) (by kernel_rfl) (by kernel_rfl) (Below.refl _ _).drew ?_
        refine wpPre_e rfl rfl (fun K1 hK1 => ?_)
        apply Exists.intro
        refine And.intro (fun wx hx => ?_) ?_
        · go_simp
          try rfl
        go_simp
        refine hK1 _ ?_
        clear hK1 K1
        refine wpPre_e rfl rfl (fun K1 hK1 => ?_)
        apply Exists.intro
        refine And.intro (fun wx hx => ?_) ?_
        · go_simp
          try rfl
        go_simp
        refine hK1 _ ?_
        clear hK1 K1
        refine wpPre_e rfl rfl (fun K1 hK1 => ?_)
        apply Exists.intro
        refine And.intro (fun wx hx => ?_) ?_
        · go_simp
          try rfl
        go_simp
        refine hK1 _ ?_
        clear hK1 K1
        refine wpPre_e rfl rfl (fun K1 hK1 => ?_)
        apply Exists.intro
        refine And.intro (fun wx hx => ?_) ?_
        · have e0 := below_fact hx rfl z0
          go_simp
          try rfl
        go_simp
        refine hK1 _ ?_
        clear hK1 K1
        refine wpPre_e rfl rfl (fun K1 hK1 => ?_)
        apply Exists.intro
        refine And.intro (fun wx hx => ?_) ?_
        · go_simp
          try rfl
        go_simp
        refine hK1 _ ?_
        clear hK1 K1
        refine wpPre_e rfl rfl (fun K1 hK1 => ?_)
        apply Exists.intro
        refine And.intro (fun wx hx => ?_) ?_
        · have e0 := below_fact hx rfl b0
          have e1 := below_fact hx rfl b1
          have e2 := below_fact hx rfl b2
          go_simp
          try rfl
        go_simp
        refine hK1 _ ?_
        clear hK1 K1
        refine wpPre_e rfl rfl (fun K1 hK1 => ?_)
        apply Exists.intro
        refine And.intro (fun wx hx => ?_) ?_
        · go_simp
          try rfl
        go_simp
        refine hK1 _ ?_
        clear hK1 K1
        refine wpPre_nil ?_
        refine wpTr_e rfl (fun K1 hK1 => ?_)
        go_simp
        refine hK1 _ _ (fun h => by cases h) ?_
        clear hK1 K1
        refine wpPre_nil ?_
        refine wpTr_done ?_
        go_wp2
        refine bodyPost_ret (v := .int .i64 0) (by simp [results, Tryz.results38, go_sem]) rfl ⟨by rw [H0.out], .inr ⟨H0.out, i, f, HIs.out, ?_⟩⟩
        rw [← HFs.out, ← HRe.out]
        refine RC.rigs HR2.out ?_
        have hE := HIk.out.put3 (f' := f) (s := s) HI2.out HAb.out rfl HB6.out HQs.out HQl.out HQn.out HQe.out HQb.out HQy.out
        rw [HQk.out] at hE
        exact hE
end Go.Proofs.YtebiidfdokhpaabGreatDoor
