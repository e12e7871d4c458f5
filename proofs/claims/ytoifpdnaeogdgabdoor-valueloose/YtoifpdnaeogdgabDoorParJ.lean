import Derived.Test.YtoifpdnaeogdgabDoorParI
import Derived.Test.YtoifpdnaeogdgabDoorParH
import Derived.Lib.ParseIntBTie
namespace Go.Proofs.YtoifpdnaeogdgabDoor
open Go.RowKit
set_option maxRecDepth 8000

theorem none_in {s : ByteArray} {a : Nat} {u : VT} {a2 : Nat} {w : World} {S : Nat → Prop} (h : noneS s a = .ok (u, a2)) : VT.In w S u := by
  unfold noneS at h
  cases hw : wordS s [110, 111, 110, 101] a with
  | error e => rw [hw] at h; cases h
  | ok a' =>
    rw [hw] at h
    simp only [noneOf, Except.ok.injEq, Prod.mk.injEq] at h
    obtain ⟨rfl, _⟩ := h
    exact small_in _ _ 0 0 ⟨#[]⟩ (by omega) (by omega) (by omega) (by omega) (by decide)
theorem txt_in {s : ByteArray} {a : Nat} {u : VT} {a2 : Nat} {w : World} {S : Nat → Prop} (h : txtS s a = .ok (u, a2)) : VT.In w S u := by
  unfold txtS at h
  cases hw : quoS s (s.size + 1) (a + 1) [] with
  | error e => rw [hw] at h; cases h
  | ok za =>
    obtain ⟨zs, a'⟩ := za
    rw [hw] at h
    unfold txtOf at h
    simp only at h
    split at h
    · cases h
    · simp only [Except.ok.injEq, Prod.mk.injEq] at h
      obtain ⟨rfl, _⟩ := h
      exact small_in _ _ 2 0 (strOf zs) (by omega) (by omega) (by omega) (by omega) (by rw [strOf_size]; omega)
theorem int_in {s : ByteArray} {a : Nat} {u : VT} {a2 : Nat} {w : World} {S : Nat → Prop} (h : intS s a = .ok (u, a2)) : VT.In w S u := by
  unfold intS at h
  split at h
  · simp only [Except.ok.injEq, Prod.mk.injEq] at h
    obtain ⟨rfl, _⟩ := h
    exact small_in _ _ 1 0 ⟨#[]⟩ (by omega) (by omega) (by omega) (by omega) (by decide)
  split at h
  · cases hp : Lib.parseIntB 64 (cutL s a (dgE s (sgS s a))) with
    | ok v =>
      rw [hp] at h
      simp only [numS, Except.ok.injEq, Prod.mk.injEq] at h
      obtain ⟨rfl, _⟩ := h
      obtain ⟨h1, h2⟩ := Lib.parseIntB_bounds hp
      have e : ((2 ^ (64 - 1) : Nat) : Int) = 9223372036854775808 := by decide
      rw [e] at h1 h2
      exact small_in _ _ 1 v ⟨#[]⟩ (by omega) (by omega) (by omega) (by omega) (by decide)
    | range => rw [hp] at h; cases h
    | «syntax» => rw [hp] at h; cases h
  · cases h
/-- the bytes with which a value can begin, as they are looked for -/
theorem beg_idx : ∀ c : Nat, c < 256 → (begB c → 0 ≤ Lib.indexByte [110, 45, 48, 49, 50, 51, 52, 53, 54, 55, 56, 57, 34, 91] ((c : Int).toNat.toUInt8)) ∧ (¬ begB c → Lib.indexByte [110, 45, 48, 49, 50, 51, 52, 53, 54, 55, 56, 57, 34, 91] ((c : Int).toNat.toUInt8) < 0) := by decide +kernel

set_option maxHeartbeats 4000000 in
theorem part_stepT (B rb : Nat) (s : ByteArray) (d : Nat) (hd : d ≤ 3) (g : Nat → Nat → TR) (hs : s.size ≤ 140737488355328) (hB : B ≤ rb) (hg : d < 3 → ItemT B rb s (d + 1) g) (hgr : d < 3 → ∀ a q, a ≤ s.size → q ≤ 12 → Read s (d + 1) (g a q) q) : ItemT B rb s d (partT s g d) := by
  intro w a q hb0 ha hq hT hEr
  have hrb := hb0.lt
  have hal : Below w.heap.size w (w.alloc (.cells #[.int .i64 0, .int .i64 0, .string ⟨#[]⟩, .slice none 0 0] 24)) := (Below.refl _ _).alloc (Nat.le_refl _) _
  have HR0 := hid (Box.below hb0 hal)
  have HZ0 := hid (Box.new w #[.int .i64 0, .int .i64 0, .string ⟨#[]⟩, .slice none 0 0] 24)
  have HP := hid (peek_any rb s a q _ HR0.out ha)
  have HA := hid hal
  have HT := hid (And.intro hT hEr)
  have HItem := hid hg
  have HGr := hid hgr
  obtain ⟨R, hR⟩ : ∃ R, R = partT s g d a q := ⟨_, rfl⟩
  rw [← hR]
  unfold partT at hR
  have hltc : pk s a ≠ 0 → a < s.size := pk_pos
  have hclt := pk_lt s a
  obtain ⟨c, hc⟩ : ∃ c, pk s a = c := ⟨_, rfl⟩
  rw [hc] at HP hR hltc hclt
  have HRr := hid hR
  have hbeg := beg_idx c hclt
  have HIx := hid (fun W => Tryd.strings_IndexByte ⟨#[110, 45, 48, 49, 50, 51, 52, 53, 54, 55, 56, 57, 34, 91]⟩ (c : Int) W)
  obtain ⟨ix, hix⟩ : ∃ ix, Lib.indexByte [110, 45, 48, 49, 50, 51, 52, 53, 54, 55, 56, 57, 34, 91] ((c : Int).toNat.toUInt8) = ix := ⟨_, rfl⟩
  rw [hix] at hbeg
  have HIx2 : Hid (∀ W, Calls Tryd.prog 26 #[.string ⟨#[110, 45, 48, 49, 50, 51, 52, 53, 54, 55, 56, 57, 34, 91]⟩, .int .u8 (c : Int)] W fun e w' => e = .returned (.int .i64 ix) ∧ w' = W) := fun W => by
    have h := HIx.out W
    rw [show (⟨#[110, 45, 48, 49, 50, 51, 52, 53, 54, 55, 56, 57, 34, 91]⟩ : ByteArray).data.toList = [110, 45, 48, 49, 50, 51, 52, 53, 54, 55, 56, 57, 34, 91] from rfl, hix] at h
    exact h
  clear hb0 hal hT hEr hg hgr hR hc hix HIx
  go_enter Tryd.func20, Tryd.ntmps20
  go_wp2_with fail
  refine HP.out.mono ?_
  rintro e w1 ⟨rfl, hb1⟩
  have hR1 := HR0.out.below hb1
  have hZ1 := HZ0.out.below hb1
  have hK1 := (But.one w rb).trans (But.ofBelow (HA.out.trans (hb1.mono HA.out.size)))
  clear HP HR0 HZ0 HA hb1
  have x1 := hR1.cell 1
  have x2 := hR1.cell 2
  have f2 := hR1.frozen 2
  simp at x1 x2
  have HK1 := hid hK1
  go_wp2_with fail
  refine (HIx2.out _).mono ?_
  rintro e w2 ⟨rfl, hw2⟩
  subst w2
  by_cases hbg : begB c
  · have hix := hbeg.1 hbg
    have hix' : ¬ ix < 0 := by omega
    have hlt : a < s.size := hltc (by unfold begB at hbg; omega)
    have hwq : IntKind.i64.wrap ((q : Int) + 1) = (q : Int) + 1 := by rw [IntKind.wrap_i64]; omega
    have hRp := Rd.parts hR1 ((q : Int) + 1) (q + 1) (by omega)
    have hne1 : w.heap.size ≠ rb := by omega
    have hne2 : rb ≠ w.heap.size := by omega
    have hKp := hK1.setAt 2 (.int .i64 ((q : Int) + 1))
    have hZp := Box.but hZ1 ((But.one _ rb).setAt 2 (.int .i64 ((q : Int) + 1))) hne1
    have H2 := hid (And.intro hRp (And.intro hZp hKp))
    have HBl : Hid (Below B w (w1.setCell ⟨rb, 2, none⟩ (.int .i64 ((q : Int) + 1)))) := hKp.below (by omega) (fun j hj => by omega)
    have z1 := hRp.cell 1
    have z2 := hRp.cell 2
    simp at z1 z2
    by_cases h12 : 12 < q + 1
    · have h12' : (12 : Int) < (q : Int) + 1 := by omega
      have HX : Hid (R = .error (a, 22)) := by unfold Hid; rw [HRr.out, if_neg (by simpa using hbg), if_pos h12]
      have HG := hid (fun W => giveUp_any ((a : Nat) : Int) 22 W)
      clear hR1 hZ1 hK1 hRp hKp hZp HItem HGr hbeg hltc
      go_wp2_with fail
      refine (HG.out _).mono ?_
      rintro e w5 ⟨rfl, hw5⟩
      subst w5
      exact ⟨rfl, tpost_err HX.out rfl H2.out.2.2⟩
    have h12' : ¬ (12 : Int) < (q : Int) + 1 := by omega
    clear hR1 hZ1 hK1 hRp hKp hZp hbeg hltc
    by_cases h110 : c = 110
    · subst h110
      have HRc : Hid (R = withQ (q + 1) (noneS s a)) := by unfold Hid; rw [HRr.out, if_neg (by simpa using hbg), if_neg h12, if_pos rfl]
      have HW := hid (none_any rb s a (q + 1) _ H2.out.1 ha hs)
      go_wp2_with fail
      refine HW.out.mono ?_
      intro x5 w5 hP5
      clear HW
      cases hr5 : noneS s a with
      | error pe =>
        obtain ⟨pp, ee⟩ := pe
        obtain ⟨hx5, hk5⟩ := hP5.2 pp ee hr5
        have HX : Hid (R = .error (pp, ee)) := by unfold Hid; rw [HRc.out, hr5]; rfl
        have HKe := hid (H2.out.2.2.trans hk5)
        unfold FailsAt at hx5
        subst hx5
        exact ⟨rfl, tpost_err HX.out rfl HKe.out⟩
      | ok tt =>
        obtain ⟨u, a2⟩ := tt
        obtain ⟨hx5, hrd5, hk5⟩ := hP5.1 u a2 hr5
        have hRe : R = .ok (u, a2, q + 1) := by rw [HRc.out, hr5]; rfl
        have hal5 := VT.Alike.refl u
        have hin5 : VT.In w5 (fun b => w.heap.size + 1 ≤ b) u := none_in hr5
        have hZ5 := H2.out.2.1.but hk5 hne1
        have hK5 := H2.out.2.2.trans hk5
        simp only [VT.val] at hx5
        subst hx5
        have s0 := hZ5.cell 0
        have s1 := hZ5.cell 1
        have s2 := hZ5.cell 2
        have s3 := hZ5.cell 3
        have sf0 := hZ5.frozen 0
        have sf1 := hZ5.frozen 1
        have sf2 := hZ5.frozen 2
        have sf3 := hZ5.frozen 3
        simp at s0 s1 s2 s3
        have HRes := hid (setV_box hZ5 (.int .i64 u.kind) (.int .i64 u.int) (.string u.text) (.slice u.p u.n u.c))
        have hkf : But (fun y => y = w.heap.size) w5 ((((w5.setCell ⟨w.heap.size, 0, none⟩ (.int .i64 u.kind)).setCell ⟨w.heap.size, 1, none⟩ (.int .i64 u.int)).setCell ⟨w.heap.size, 2, none⟩ (.string u.text)).setCell ⟨w.heap.size, 3, none⟩ (.slice u.p u.n u.c)) := ((((But.one _ w.heap.size).setAt 0 _).setAt 1 _).setAt 2 _).setAt 3 _
        have HD := hid (tpost_ok (w := w) hRe hal5 hin5 hrd5 hK5 hkf hrb)
        clear hP5 hr5 hZ5 hK5 hrd5 hk5 hin5 hal5 hkf hRe H2 HRc HItem HGr
        go_wp2
        have r0 := HRes.out.cell 0
        have r1 := HRes.out.cell 1
        have r2 := HRes.out.cell 2
        have r3 := HRes.out.cell 3
        simp only [List.getElem?_toArray, List.getElem?_cons_zero, List.getElem?_cons_succ] at r0 r1 r2 r3
        refine bodyPost_ret (v := .agg #[.int .i64 u.kind, .int .i64 u.int, .string u.text, .slice u.p u.n u.c]) (by simp [results, Tryd.results20, go_sem, r0, r1, r2, r3]) rfl ?_
        exact HD.out
    have e110 : ((c : Int) == 110) = false := by simp; omega
    by_cases h34 : c = 34
    · subst h34
      have HRc : Hid (R = withQ (q + 1) (txtS s a)) := by unfold Hid; rw [HRr.out, if_neg (by simpa using hbg), if_neg h12, if_neg (by decide), if_pos rfl]
      have HW := hid (quoted_any B rb s a (q + 1) _ H2.out.1 hlt hs hB (HT.out.1.on HBl.out))
      go_wp2_with fail
      refine HW.out.mono ?_
      intro x5 w5 hP5
      clear HW
      cases hr5 : txtS s a with
      | error pe =>
        obtain ⟨pp, ee⟩ := pe
        obtain ⟨hx5, hk5⟩ := hP5.2 pp ee hr5
        have HX : Hid (R = .error (pp, ee)) := by unfold Hid; rw [HRc.out, hr5]; rfl
        have HKe := hid (H2.out.2.2.trans hk5)
        unfold FailsAt at hx5
        subst hx5
        exact ⟨rfl, tpost_err HX.out rfl HKe.out⟩
      | ok tt =>
        obtain ⟨u, a2⟩ := tt
        obtain ⟨hx5, hrd5, hk5⟩ := hP5.1 u a2 hr5
        have hRe : R = .ok (u, a2, q + 1) := by rw [HRc.out, hr5]; rfl
        have hal5 := VT.Alike.refl u
        have hin5 : VT.In w5 (fun b => w.heap.size + 1 ≤ b) u := txt_in hr5
        have hZ5 := H2.out.2.1.but hk5 hne1
        have hK5 := H2.out.2.2.trans hk5
        simp only [VT.val] at hx5
        subst hx5
        have s0 := hZ5.cell 0
        have s1 := hZ5.cell 1
        have s2 := hZ5.cell 2
        have s3 := hZ5.cell 3
        have sf0 := hZ5.frozen 0
        have sf1 := hZ5.frozen 1
        have sf2 := hZ5.frozen 2
        have sf3 := hZ5.frozen 3
        simp at s0 s1 s2 s3
        have HRes := hid (setV_box hZ5 (.int .i64 u.kind) (.int .i64 u.int) (.string u.text) (.slice u.p u.n u.c))
        have hkf : But (fun y => y = w.heap.size) w5 ((((w5.setCell ⟨w.heap.size, 0, none⟩ (.int .i64 u.kind)).setCell ⟨w.heap.size, 1, none⟩ (.int .i64 u.int)).setCell ⟨w.heap.size, 2, none⟩ (.string u.text)).setCell ⟨w.heap.size, 3, none⟩ (.slice u.p u.n u.c)) := ((((But.one _ w.heap.size).setAt 0 _).setAt 1 _).setAt 2 _).setAt 3 _
        have HD := hid (tpost_ok (w := w) hRe hal5 hin5 hrd5 hK5 hkf hrb)
        clear hP5 hr5 hZ5 hK5 hrd5 hk5 hin5 hal5 hkf hRe H2 HRc HItem HGr
        go_wp2
        have r0 := HRes.out.cell 0
        have r1 := HRes.out.cell 1
        have r2 := HRes.out.cell 2
        have r3 := HRes.out.cell 3
        simp only [List.getElem?_toArray, List.getElem?_cons_zero, List.getElem?_cons_succ] at r0 r1 r2 r3
        refine bodyPost_ret (v := .agg #[.int .i64 u.kind, .int .i64 u.int, .string u.text, .slice u.p u.n u.c]) (by simp [results, Tryd.results20, go_sem, r0, r1, r2, r3]) rfl ?_
        exact HD.out
    have e34 : ((c : Int) == 34) = false := by simp; omega
    by_cases h91 : c = 91
    · subst h91
      have HRc : Hid (R = listS s g d a (q + 1)) := by unfold Hid; rw [HRr.out, if_neg (by simpa using hbg), if_neg h12, if_neg (by decide), if_neg (by decide), if_pos rfl]
      have HW := hid (list_any B rb s d a (q + 1) hd _ g HItem.out HGr.out H2.out.1 hlt (by omega) hs hB (HT.out.1.on HBl.out) (HT.out.2.on HBl.out))
      go_wp2_with fail
      refine HW.out.mono ?_
      intro x5 w5 hP5
      clear HW
      cases hr5 : listS s g d a (q + 1) with
      | error pe =>
        obtain ⟨pp, ee⟩ := pe
        obtain ⟨hx5, hk5⟩ := hP5.2 pp ee hr5
        have HX : Hid (R = .error (pp, ee)) := by unfold Hid; rw [HRc.out, hr5]
        have HKe := hid (H2.out.2.2.trans hk5)
        unfold FailsAt at hx5
        subst hx5
        exact ⟨rfl, tpost_err HX.out rfl HKe.out⟩
      | ok tt =>
        obtain ⟨t, a2, q2⟩ := tt
        obtain ⟨u, hx5, hal5, hin5', hrd5, hk5⟩ := hP5.1 t a2 q2 hr5
        have hRe : R = .ok (t, a2, q2) := by rw [HRc.out, hr5]
        have hin5 : VT.In w5 (fun b => w.heap.size + 1 ≤ b) u := hin5'.mono fun b hb _ => by have := H2.out.2.1.lt; omega
        have hZ5 := H2.out.2.1.but hk5 hne1
        have hK5 := H2.out.2.2.trans hk5
        simp only [VT.val] at hx5
        subst hx5
        have s0 := hZ5.cell 0
        have s1 := hZ5.cell 1
        have s2 := hZ5.cell 2
        have s3 := hZ5.cell 3
        have sf0 := hZ5.frozen 0
        have sf1 := hZ5.frozen 1
        have sf2 := hZ5.frozen 2
        have sf3 := hZ5.frozen 3
        simp at s0 s1 s2 s3
        have HRes := hid (setV_box hZ5 (.int .i64 u.kind) (.int .i64 u.int) (.string u.text) (.slice u.p u.n u.c))
        have hkf : But (fun y => y = w.heap.size) w5 ((((w5.setCell ⟨w.heap.size, 0, none⟩ (.int .i64 u.kind)).setCell ⟨w.heap.size, 1, none⟩ (.int .i64 u.int)).setCell ⟨w.heap.size, 2, none⟩ (.string u.text)).setCell ⟨w.heap.size, 3, none⟩ (.slice u.p u.n u.c)) := ((((But.one _ w.heap.size).setAt 0 _).setAt 1 _).setAt 2 _).setAt 3 _
        have HD := hid (tpost_ok (w := w) hRe hal5 hin5 hrd5 hK5 hkf hrb)
        clear hP5 hr5 hZ5 hK5 hrd5 hk5 hin5 hal5 hkf hRe H2 HRc HItem HGr
        go_wp2
        have r0 := HRes.out.cell 0
        have r1 := HRes.out.cell 1
        have r2 := HRes.out.cell 2
        have r3 := HRes.out.cell 3
        simp only [List.getElem?_toArray, List.getElem?_cons_zero, List.getElem?_cons_succ] at r0 r1 r2 r3
        refine bodyPost_ret (v := .agg #[.int .i64 u.kind, .int .i64 u.int, .string u.text, .slice u.p u.n u.c]) (by simp [results, Tryd.results20, go_sem, r0, r1, r2, r3]) rfl ?_
        exact HD.out
    · have e91 : ((c : Int) == 91) = false := by simp; omega
      have HRc : Hid (R = withQ (q + 1) (intS s a)) := by unfold Hid; rw [HRr.out, if_neg (by simpa using hbg), if_neg h12, if_neg h110, if_neg h34, if_neg h91]
      have HW := hid (integer_any B rb s a (q + 1) _ H2.out.1 ha hs hB (HT.out.2.on HBl.out))
      go_wp2_with fail
      refine HW.out.mono ?_
      intro x5 w5 hP5
      clear HW
      cases hr5 : intS s a with
      | error pe =>
        obtain ⟨pp, ee⟩ := pe
        obtain ⟨hx5, hk5⟩ := hP5.2 pp ee hr5
        have HX : Hid (R = .error (pp, ee)) := by unfold Hid; rw [HRc.out, hr5]; rfl
        have HKe := hid (H2.out.2.2.trans hk5)
        unfold FailsAt at hx5
        subst hx5
        exact ⟨rfl, tpost_err HX.out rfl HKe.out⟩
      | ok tt =>
        obtain ⟨u, a2⟩ := tt
        obtain ⟨hx5, hrd5, hk5⟩ := hP5.1 u a2 hr5
        have hRe : R = .ok (u, a2, q + 1) := by rw [HRc.out, hr5]; rfl
        have hal5 := VT.Alike.refl u
        have hin5 : VT.In w5 (fun b => w.heap.size + 1 ≤ b) u := int_in hr5
        have hZ5 := H2.out.2.1.but hk5 hne1
        have hK5 := H2.out.2.2.trans hk5
        simp only [VT.val] at hx5
        subst hx5
        have s0 := hZ5.cell 0
        have s1 := hZ5.cell 1
        have s2 := hZ5.cell 2
        have s3 := hZ5.cell 3
        have sf0 := hZ5.frozen 0
        have sf1 := hZ5.frozen 1
        have sf2 := hZ5.frozen 2
        have sf3 := hZ5.frozen 3
        simp at s0 s1 s2 s3
        have HRes := hid (setV_box hZ5 (.int .i64 u.kind) (.int .i64 u.int) (.string u.text) (.slice u.p u.n u.c))
        have hkf : But (fun y => y = w.heap.size) w5 ((((w5.setCell ⟨w.heap.size, 0, none⟩ (.int .i64 u.kind)).setCell ⟨w.heap.size, 1, none⟩ (.int .i64 u.int)).setCell ⟨w.heap.size, 2, none⟩ (.string u.text)).setCell ⟨w.heap.size, 3, none⟩ (.slice u.p u.n u.c)) := ((((But.one _ w.heap.size).setAt 0 _).setAt 1 _).setAt 2 _).setAt 3 _
        have HD := hid (tpost_ok (w := w) hRe hal5 hin5 hrd5 hK5 hkf hrb)
        clear hP5 hr5 hZ5 hK5 hrd5 hk5 hin5 hal5 hkf hRe H2 HRc HItem HGr
        go_wp2
        have r0 := HRes.out.cell 0
        have r1 := HRes.out.cell 1
        have r2 := HRes.out.cell 2
        have r3 := HRes.out.cell 3
        simp only [List.getElem?_toArray, List.getElem?_cons_zero, List.getElem?_cons_succ] at r0 r1 r2 r3
        refine bodyPost_ret (v := .agg #[.int .i64 u.kind, .int .i64 u.int, .string u.text, .slice u.p u.n u.c]) (by simp [results, Tryd.results20, go_sem, r0, r1, r2, r3]) rfl ?_
        exact HD.out
  · have hix := hbeg.2 hbg
    have HX : Hid (R = .error (a, 28)) := by unfold Hid; rw [HRr.out, if_pos hbg]
    have HG := hid (fun W => giveUp_any ((a : Nat) : Int) 28 W)
    clear hR1 hZ1 hK1 HItem HGr hbeg hltc
    go_wp2_with fail
    refine (HG.out _).mono ?_
    rintro e w5 ⟨rfl, hw5⟩
    subst w5
    exact ⟨rfl, tpost_err HX.out rfl HK1.out⟩
theorem part_anyT (B rb : Nat) (s : ByteArray) (hs : s.size ≤ 140737488355328) (hB : B ≤ rb) : ∀ k d, d + k = 3 → ItemT B rb s d (parS s k d) := by
  intro k
  induction k with
  | zero => intro d h; exact part_stepT B rb s d (by omega) _ hs hB (fun h2 => by omega) (fun h2 => by omega)
  | succ k ih => intro d h; exact part_stepT B rb s d (by omega) _ hs hB (fun h2 => ih (d + 1) (by omega)) (fun h2 a q ha hq => par_read k (d + 1) a q (by omega) ha)
end Go.Proofs.YtoifpdnaeogdgabDoor
