import Derived.Test.YtdmhemofhmfkoabGreatDoorParI
import Derived.Test.YtdmhemofhmfkoabGreatDoorParH
import Derived.Lib.ParseIntBTie
import Derived.Test.YtdmhemofhmfkoabGreatDoorDecP
import Derived.Defers
import Derived.Recover
namespace Go.Proofs.YtdmhemofhmfkoabGreatDoor
open Go.RowKit
set_option maxRecDepth 8000

theorem none_in {s : ByteArray} {a : Nat} {u : VT} {a2 : Nat} {w : World} {S : Nat → Prop} (h : noneS s a = .ok (u, a2)) : VT.In w S u := by
  unfold noneS at h
  cases hw : wordS s [110, 111, 110, 101] a with
  | error e => rw [hw] at h; cases h
  | ok a' =>
    rw [hw] at h
    simp only [noneOf, Except.ok.injEq, Prod.mk.injEq] at h
    obtain ⟨rfl, _⟩ := h
    exact small_in _ _ 0 0 ⟨#[]⟩ (by omega) (by omega) (by omega) (by omega) (by decide)
theorem txt_in {s : ByteArray} {a : Nat} {u : VT} {a2 : Nat} {w : World} {S : Nat → Prop} (h : txtS s a = .ok (u, a2)) : VT.In w S u := by
  unfold txtS at h
  cases hw : quoS s (s.size + 1) (a + 1) [] with
  | error e => rw [hw] at h; cases h
  | ok za =>
    obtain ⟨zs, a'⟩ := za
    rw [hw] at h
    unfold txtOf at h
    simp only at h
    split at h
    · cases h
    · simp only [Except.ok.injEq, Prod.mk.injEq] at h
      obtain ⟨rfl, _⟩ := h
      exact small_in _ _ 2 0 (strOf zs) (by omega) (by omega) (by omega) (by omega) (by rw [strOf_size]; omega)
theorem int_in {s : ByteArray} {a : Nat} {u : VT} {a2 : Nat} {w : World} {S : Nat → Prop} (h : intS s a = .ok (u, a2)) : VT.In w S u := by
  unfold intS at h
  split at h
  · simp only [Except.ok.injEq, Prod.mk.injEq] at h
    obtain ⟨rfl, _⟩ := h
    exact small_in _ _ 1 0 ⟨#[]⟩ (by omega) (by omega) (by omega) (by omega) (by decide)
  split at h
  · cases hp : Lib.parseIntB 64 (cutL s a (dgE s (sgS s a))) with
    | ok v =>
      rw [hp] at h
      simp only [numS, Except.ok.injEq, Prod.mk.injEq] at h
      obtain ⟨rfl, _⟩ := h
      obtain ⟨h1, h2⟩ := Lib.parseIntB_bounds hp
      have e : ((2 ^ (64 - 1) : Nat) : Int) = 9223372036854775808 := by decide
      rw [e] at h1 h2
      exact small_in _ _ 1 v ⟨#[]⟩ (by omega) (by omega) (by omega) (by omega) (by decide)
    | range => rw [hp] at h; cases h
    | «syntax» => rw [hp] at h; cases h
  · cases h
/-- the bytes with which a value can begin, as they are looked for -/
theorem beg_idx : ∀ c : Nat, c < 256 → (begB c → 0 ≤ Lib.indexByte [110, 45, 48, 49, 50, 51, 52, 53, 54, 55, 56, 57, 34, 91] ((c : Int).toNat.toUInt8)) ∧ (¬ begB c → Lib.indexByte [110, 45, 48, 49, 50, 51, 52, 53, 54, 55, 56, 57, 34, 91] ((c : Int).toNat.toUInt8) < 0) := by decide +kernel

set_option maxHeartbeats 4000000 in
theorem part_stepT (B rb : Nat) (s : ByteArray) (d : Nat) (hd : d ≤ 3) (g : Nat → Nat → TR) (hs : s.size ≤ 140737488355328) (hB : B ≤ rb) (hg : d < 3 → ItemT B rb s (d + 1) g) (hgr : d < 3 → ∀ a q, a ≤ s.size → q ≤ 12 → Read s (d + 1) (g a q) q) : ItemT B rb s d (partT s g d) := by
  intro w a q hb0 ha hq hT hEr
  have hrb := hb0.lt
  have hal : Below w.heap.size w (w.alloc (.cells #[.int .i64 0, .int .i64 0, .string ⟨#[]⟩, .slice none 0 0] 24)) := (Below.refl _ _).alloc (Nat.le_refl _) _
  have HR0 := hid (Box.below hb0 hal)
  have HZ0 := hid (Box.new w #[.int .i64 0, .int .i64 0, .string ⟨#[]⟩, .slice none 0 0] 24)
  have HP := hid (peek_any rb s a q _ HR0.out ha)
  have HA := hid hal
  have HT := hid (And.intro hT hEr)
  have HItem := hid hg
  have HGr := hid hgr
  obtain ⟨R, hR⟩ : ∃ R, R = partT s g d a q := ⟨_, rfl⟩
  rw [← hR]
  unfold partT at hR
  have hltc : pk s a ≠ 0 → a < s.size := pk_pos
  have hclt := pk_lt s a
  obtain ⟨c, hc⟩ : ∃ c, pk s a = c := ⟨_, rfl⟩
  rw [hc] at HP hR hltc hclt
  have HRr := hid hR
  have hbeg := beg_idx c hclt
  have HIx := hid (fun W => Tryz.strings_IndexByte ⟨#[110, 45, 48, 49, 50, 51, 52, 53, 54, 55, 56, 57, 34, 91]⟩ (c : Int) W)
  obtain ⟨ix, hix⟩ : ∃ ix, Lib.indexByte [110, 45, 48, 49, 50, 51, 52, 53, 54, 55, 56, 57, 34, 91] ((c : Int).toNat.toUInt8) = ix := ⟨_, rfl⟩
  rw [hix] at hbeg
  have HIx2 : Hid (∀ W, Calls Tryz.prog 64 #[.string ⟨#[110, 45, 48, 49, 50, 51, 52, 53, 54, 55, 56, 57, 34, 91]⟩, .int .u8 (c : Int)] W fun e w' => e = .returned (.int .i64 ix) ∧ w' = W) := fun W => by
    have h := HIx.out W
    rw [show (⟨#[110, 45, 48, 49, 50, 51, 52, 53, 54, 55, 56, 57, 34, 91]⟩ : ByteArray).data.toList = [110, 45, 48, 49, 50, 51, 52, 53, 54, 55, 56, 57, 34, 91] from rfl, hix] at h
    exact h
  clear hb0 hal hT hEr hg hgr hR hc hix HIx
  go_enter Tryz.func36, Tryz.ntmps36
  go_wp2_with fail
  refine HP.out.mono ?_
  rintro e w1 ⟨rfl, hb1⟩
  have hR1 := HR0.out.below hb1
  have hZ1 := HZ0.out.below hb1
  have hK1 := (But.one w rb).trans (But.ofBelow (HA.out.trans (hb1.mono HA.out.size)))
  clear HP HR0 HZ0 HA hb1
  have x1 := hR1.cell 1
  have x2 := hR1.cell 2
  have f2 := hR1.frozen 2
  simp at x1 x2
  have HK1 := hid hK1
  go_wp2_with fail
  refine (HIx2.out _).mono ?_
  rintro e w2 ⟨rfl, hw2⟩
  subst w2
  by_cases hbg : begB c
  · have hix := hbeg.1 hbg
    have hix' : ¬ ix < 0 := by omega
    have hlt : a < s.size := hltc (by unfold begB at hbg; omega)
    have hwq : IntKind.i64.wrap ((q : Int) + 1) = (q : Int) + 1 := by rw [IntKind.wrap_i64]; omega
    have hRp := Rd.parts hR1 ((q : Int) + 1) (q + 1) (by omega)
    have hne1 : w.heap.size ≠ rb := by omega
    have hne2 : rb ≠ w.heap.size := by omega
    have hKp := hK1.setAt 2 (.int .i64 ((q : Int) + 1))
    have hZp := Box.but hZ1 ((But.one _ rb).setAt 2 (.int .i64 ((q : Int) + 1))) hne1
    have H2 := hid (And.intro hRp (And.intro hZp hKp))
    have HBl : Hid (Below B w (w1.setCell ⟨rb, 2, none⟩ (.int .i64 ((q : Int) + 1)))) := hKp.below (by omega) (fun j hj => by omega)
    have z1 := hRp.cell 1
    have z2 := hRp.cell 2
    simp at z1 z2
    by_cases h12 : 12 < q + 1
    · have h12' : (12 : Int) < (q : Int) + 1 := by omega
      have HX : Hid (R = .error (a, 22)) := by unfold Hid; rw [HRr.out, if_neg (by simpa using hbg), if_pos h12]
      have HG := hid (fun W => giveUp_any ((a : Nat) : Int) 22 W)
      clear hR1 hZ1 hK1 hRp hKp hZp HItem HGr hbeg hltc
      go_wp2_with fail
      refine (HG.out _).mono ?_
      rintro e w5 ⟨rfl, hw5⟩
      subst w5
      exact ⟨rfl, tpost_err HX.out rfl H2.out.2.2⟩
    have h12' : ¬ (12 : Int) < (q : Int) + 1 := by omega
    clear hR1 hZ1 hK1 hRp hKp hZp hbeg hltc
    by_cases h110 : c = 110
    · subst h110
      have HRc : Hid (R = withQ (q + 1) (noneS s a)) := by unfold Hid; rw [HRr.out, if_neg (by simpa using hbg), if_neg h12, if_pos rfl]
      have HW := hid (none_any rb s a (q + 1) _ H2.out.1 ha hs)
      go_wp2_with fail
      refine HW.out.mono ?_
      intro x5 w5 hP5
      clear HW
      cases hr5 : noneS s a with
      | error pe =>
        obtain ⟨pp, ee⟩ := pe
        obtain ⟨hx5, hk5⟩ := hP5.2 pp ee hr5
        have HX : Hid (R = .error (pp, ee)) := by unfold Hid; rw [HRc.out, hr5]; rfl
        have HKe := hid (H2.out.2.2.trans hk5)
        unfold FailsAt at hx5
        subst hx5
        exact ⟨rfl, tpost_err HX.out rfl HKe.out⟩
      | ok tt =>
        obtain ⟨u, a2⟩ := tt
        obtain ⟨hx5, hrd5, hk5⟩ := hP5.1 u a2 hr5
        have hRe : R = .ok (u, a2, q + 1) := by rw [HRc.out, hr5]; rfl
        have hal5 := VT.Alike.refl u
        have hin5 : VT.In w5 (fun b => w.heap.size + 1 ≤ b) u := none_in hr5
        have hZ5 := H2.out.2.1.but hk5 hne1
        have hK5 := H2.out.2.2.trans hk5
        simp only [VT.val] at hx5
        subst hx5
        have s0 := hZ5.cell 0
        have s1 := hZ5.cell 1
        have s2 := hZ5.cell 2
        have s3 := hZ5.cell 3
        have sf0 := hZ5.frozen 0
        have sf1 := hZ5.frozen 1
        have sf2 := hZ5.frozen 2
        have sf3 := hZ5.frozen 3
        simp at s0 s1 s2 s3
        have HRes := hid (setV_box hZ5 (.int .i64 u.kind) (.int .i64 u.int) (.string u.text) (.slice u.p u.n u.c))
        have hkf : But (fun y => y = w.heap.size) w5 ((((w5.setCell ⟨w.heap.size, 0, none⟩ (.int .i64 u.kind)).setCell ⟨w.heap.size, 1, none⟩ (.int .i64 u.int)).setCell ⟨w.heap.size, 2, none⟩ (.string u.text)).setCell ⟨w.heap.size, 3, none⟩ (.slice u.p u.n u.c)) := ((((But.one _ w.heap.size).setAt 0 _).setAt 1 _).setAt 2 _).setAt 3 _
        have HD := hid (tpost_ok (w := w) hRe hal5 hin5 hrd5 hK5 hkf hrb)
        clear hP5 hr5 hZ5 hK5 hrd5 hk5 hin5 hal5 hkf hRe H2 HRc HItem HGr
        go_wp2
        have r0 := HRes.out.cell 0
        have r1 := HRes.out.cell 1
        have r2 := HRes.out.cell 2
        have r3 := HRes.out.cell 3
        simp only [List.getElem?_toArray, List.getElem?_cons_zero, List.getElem?_cons_succ] at r0 r1 r2 r3
        refine bodyPost_ret (v := .agg #[.int .i64 u.kind, .int .i64 u.int, .string u.text, .slice u.p u.n u.c]) (by simp [results, Tryz.results36, go_sem, r0, r1, r2, r3]) rfl ?_
        exact HD.out
    have e110 : ((c : Int) == 110) = false := by simp; omega
    by_cases h34 : c = 34
    · subst h34
      have HRc : Hid (R = withQ (q + 1) (txtS s a)) := by unfold Hid; rw [HRr.out, if_neg (by simpa using hbg), if_neg h12, if_neg (by decide), if_pos rfl]
      have HW := hid (quoted_any B rb s a (q + 1) _ H2.out.1 hlt hs hB (HT.out.1.on HBl.out))
      go_wp2_with fail
      refine HW.out.mono ?_
      intro x5 w5 hP5
      clear HW
      cases hr5 : txtS s a with
      | error pe =>
        obtain ⟨pp, ee⟩ := pe
        obtain ⟨hx5, hk5⟩ := hP5.2 pp ee hr5
        have HX : Hid (R = .error (pp, ee)) := by unfold Hid; rw [HRc.out, hr5]; rfl
        have HKe := hid (H2.out.2.2.trans hk5)
        unfold FailsAt at hx5
        subst hx5
        exact ⟨rfl, tpost_err HX.out rfl HKe.out⟩
      | ok tt =>
        obtain ⟨u, a2⟩ := tt
        obtain ⟨hx5, hrd5, hk5⟩ := hP5.1 u a2 hr5
        have hRe : R = .ok (u, a2, q + 1) := by rw [HRc.out, hr5]; rfl
        have hal5 := VT.Alike.refl u
        have hin5 : VT.In w5 (fun b => w.heap.size + 1 ≤ b) u := txt_in hr5
        have hZ5 := H2.out.2.1.but hk5 hne1
        have hK5 := H2.out.2.2.trans hk5
        simp only [VT.val] at hx5
        subst hx5
        have s0 := hZ5.cell 0
        have s1 := hZ5.cell 1
        have s2 := hZ5.cell 2
        have s3 := hZ5.cell 3
        have sf0 := hZ5.frozen 0
        have sf1 := hZ5.frozen 1
        have sf2 := hZ5.frozen 2
        have sf3 := hZ5.frozen 3
        simp at s0 s1 s2 s3
        have HRes := hid (setV_box hZ5 (.int .i64 u.kind) (.int .i64 u.int) (.string u.text) (.slice u.p u.n u.c))
        have hkf : But (fun y => y = w.heap.size) w5 ((((w5.setCell ⟨w.heap.size, 0, none⟩ (.int .i64 u.kind)).setCell ⟨w.heap.size, 1, none⟩ (.int .i64 u.int)).setCell ⟨w.heap.size, 2, none⟩ (.string u.text)).setCell ⟨w.heap.size, 3, none⟩ (.slice u.p u.n u.c)) := ((((But.one _ w.heap.size).setAt 0 _).setAt 1 _).setAt 2 _).setAt 3 _
        have HD := hid (tpost_ok (w := w) hRe hal5 hin5 hrd5 hK5 hkf hrb)
        clear hP5 hr5 hZ5 hK5 hrd5 hk5 hin5 hal5 hkf hRe H2 HRc HItem HGr
        go_wp2
        have r0 := HRes.out.cell 0
        have r1 := HRes.out.cell 1
        have r2 := HRes.out.cell 2
        have r3 := HRes.out.cell 3
        simp only [List.getElem?_toArray, List.getElem?_cons_zero, List.getElem?_cons_succ] at r0 r1 r2 r3
        refine bodyPost_ret (v := .agg #[.int .i64 u.kind, .int .i64 u.int, .string u.text, .slice u.p u.n u.c]) (by simp [results, Tryz.results36, go_sem, r0, r1, r2, r3]) rfl ?_
        exact HD.out
    have e34 : ((c : Int) == 34) = false := by simp; omega
    by_cases h91 : c = 91
    · subst h91
      have HRc : Hid (R = listS s g d a (q + 1)) := by unfold Hid; rw [HRr.out, if_neg (by simpa using hbg), if_neg h12, if_neg (by decide), if_neg (by decide), if_pos rfl]
      have HW := hid (list_any B rb s d a (q + 1) hd _ g HItem.out HGr.out H2.out.1 hlt (by omega) hs hB (HT.out.1.on HBl.out) (HT.out.2.on HBl.out))
      go_wp2_with fail
      refine HW.out.mono ?_
      intro x5 w5 hP5
      clear HW
      cases hr5 : listS s g d a (q + 1) with
      | error pe =>
        obtain ⟨pp, ee⟩ := pe
        obtain ⟨hx5, hk5⟩ := hP5.2 pp ee hr5
        have HX : Hid (R = .error (pp, ee)) := by unfold Hid; rw [HRc.out, hr5]
        have HKe := hid (H2.out.2.2.trans hk5)
        unfold FailsAt at hx5
        subst hx5
        exact ⟨rfl, tpost_err HX.out rfl HKe.out⟩
      | ok tt =>
        obtain ⟨t, a2, q2⟩ := tt
        obtain ⟨u, hx5, hal5, hin5', hrd5, hk5⟩ := hP5.1 t a2 q2 hr5
        have hRe : R = .ok (t, a2, q2) := by rw [HRc.out, hr5]
        have hin5 : VT.In w5 (fun b => w.heap.size + 1 ≤ b) u := hin5'.mono fun b hb _ => by have := H2.out.2.1.lt; omega
        have hZ5 := H2.out.2.1.but hk5 hne1
        have hK5 := H2.out.2.2.trans hk5
        simp only [VT.val] at hx5
        subst hx5
        have s0 := hZ5.cell 0
        have s1 := hZ5.cell 1
        have s2 := hZ5.cell 2
        have s3 := hZ5.cell 3
        have sf0 := hZ5.frozen 0
        have sf1 := hZ5.frozen 1
        have sf2 := hZ5.frozen 2
        have sf3 := hZ5.frozen 3
        simp at s0 s1 s2 s3
        have HRes := hid (setV_box hZ5 (.int .i64 u.kind) (.int .i64 u.int) (.string u.text) (.slice u.p u.n u.c))
        have hkf : But (fun y => y = w.heap.size) w5 ((((w5.setCell ⟨w.heap.size, 0, none⟩ (.int .i64 u.kind)).setCell ⟨w.heap.size, 1, none⟩ (.int .i64 u.int)).setCell ⟨w.heap.size, 2, none⟩ (.string u.text)).setCell ⟨w.heap.size, 3, none⟩ (.slice u.p u.n u.c)) := ((((But.one _ w.heap.size).setAt 0 _).setAt 1 _).setAt 2 _).setAt 3 _
        have HD := hid (tpost_ok (w := w) hRe hal5 hin5 hrd5 hK5 hkf hrb)
        clear hP5 hr5 hZ5 hK5 hrd5 hk5 hin5 hal5 hkf hRe H2 HRc HItem HGr
        go_wp2
        have r0 := HRes.out.cell 0
        have r1 := HRes.out.cell 1
        have r2 := HRes.out.cell 2
        have r3 := HRes.out.cell 3
        simp only [List.getElem?_toArray, List.getElem?_cons_zero, List.getElem?_cons_succ] at r0 r1 r2 r3
        refine bodyPost_ret (v := .agg #[.int .i64 u.kind, .int .i64 u.int, .string u.text, .slice u.p u.n u.c]) (by simp [results, Tryz.results36, go_sem, r0, r1, r2, r3]) rfl ?_
        exact HD.out
    · have e91 : ((c : Int) == 91) = false := by simp; omega
      have HRc : Hid (R = withQ (q + 1) (intS s a)) := by unfold Hid; rw [HRr.out, if_neg (by simpa using hbg), if_neg h12, if_neg h110, if_neg h34, if_neg h91]
      have HW := hid (integer_any B rb s a (q + 1) _ H2.out.1 ha hs hB (HT.out.2.on HBl.out))
      go_wp2_with fail
      refine HW.out.mono ?_
      intro x5 w5 hP5
      clear HW
      cases hr5 : intS s a with
      | error pe =>
        obtain ⟨pp, ee⟩ := pe
        obtain ⟨hx5, hk5⟩ := hP5.2 pp ee hr5
        have HX : Hid (R = .error (pp, ee)) := by unfold Hid; rw [HRc.out, hr5]; rfl
        have HKe := hid (H2.out.2.2.trans hk5)
        unfold FailsAt at hx5
        subst hx5
        exact ⟨rfl, tpost_err HX.out rfl HKe.out⟩
      | ok tt =>
        obtain ⟨u, a2⟩ := tt
        obtain ⟨hx5, hrd5, hk5⟩ := hP5.1 u a2 hr5
        have hRe : R = .ok (u, a2, q + 1) := by rw [HRc.out, hr5]; rfl
        have hal5 := VT.Alike.refl u
        have hin5 : VT.In w5 (fun b => w.heap.size + 1 ≤ b) u := int_in hr5
        have hZ5 := H2.out.2.1.but hk5 hne1
        have hK5 := H2.out.2.2.trans hk5
        simp only [VT.val] at hx5
        subst hx5
        have s0 := hZ5.cell 0
        have s1 := hZ5.cell 1
        have s2 := hZ5.cell 2
        have s3 := hZ5.cell 3
        have sf0 := hZ5.frozen 0
        have sf1 := hZ5.frozen 1
        have sf2 := hZ5.frozen 2
        have sf3 := hZ5.frozen 3
        simp at s0 s1 s2 s3
        have HRes := hid (setV_box hZ5 (.int .i64 u.kind) (.int .i64 u.int) (.string u.text) (.slice u.p u.n u.c))
        have hkf : But (fun y => y = w.heap.size) w5 ((((w5.setCell ⟨w.heap.size, 0, none⟩ (.int .i64 u.kind)).setCell ⟨w.heap.size, 1, none⟩ (.int .i64 u.int)).setCell ⟨w.heap.size, 2, none⟩ (.string u.text)).setCell ⟨w.heap.size, 3, none⟩ (.slice u.p u.n u.c)) := ((((But.one _ w.heap.size).setAt 0 _).setAt 1 _).setAt 2 _).setAt 3 _
        have HD := hid (tpost_ok (w := w) hRe hal5 hin5 hrd5 hK5 hkf hrb)
        clear hP5 hr5 hZ5 hK5 hrd5 hk5 hin5 hal5 hkf hRe H2 HRc HItem HGr
        go_wp2
        have r0 := HRes.out.cell 0
        have r1 := HRes.out.cell 1
        have r2 := HRes.out.cell 2
        have r3 := HRes.out.cell 3
        simp only [List.getElem?_toArray, List.getElem?_cons_zero, List.getElem?_cons_succ] at r0 r1 r2 r3
        refine bodyPost_ret (v := .agg #[.int .i64 u.kind, .int .i64 u.int, .string u.text, .slice u.p u.n u.c]) (by simp [results, Tryz.results36, go_sem, r0, r1, r2, r3]) rfl ?_
        exact HD.out
  · have hix := hbeg.2 hbg
    have HX : Hid (R = .error (a, 28)) := by unfold Hid; rw [HRr.out, if_pos hbg]
    have HG := hid (fun W => giveUp_any ((a : Nat) : Int) 28 W)
    clear hR1 hZ1 hK1 HItem HGr hbeg hltc
    go_wp2_with fail
    refine (HG.out _).mono ?_
    rintro e w5 ⟨rfl, hw5⟩
    subst w5
    exact ⟨rfl, tpost_err HX.out rfl HK1.out⟩
theorem part_anyT (B rb : Nat) (s : ByteArray) (hs : s.size ≤ 140737488355328) (hB : B ≤ rb) : ∀ k d, d + k = 3 → ItemT B rb s d (parS s k d) := by
  intro k
  induction k with
  | zero => intro d h; exact part_stepT B rb s d (by omega) _ hs hB (fun h2 => by omega) (fun h2 => by omega)
  | succ k ih => intro d h; exact part_stepT B rb s d (by omega) _ hs hB (fun h2 => ih (d + 1) (by omega)) (fun h2 a q ha hq => par_read k (d + 1) a q (by omega) ha)
end Go.Proofs.YtdmhemofhmfkoabGreatDoor

namespace Go.Proofs.YtdmhemofhmfkoabGreatDoor
open Go.RowKit
set_option maxRecDepth 8000
theorem part_any (db : Nat) (p : Option Addr) (n c : Nat) (f : Nat → Int) : ∀ k d, d + k = 3 → ItemC db p n c f d (decS f n k d) := by
  intro k
  induction k with
  | zero => intro d h; exact part_step db p n c f d (by omega) _ (fun h2 => by omega) (fun _ _ _ _ _ h2 => by cases h2)
  | succ k ih => intro d h; exact part_step db p n c f d (by omega) _ (fun h2 => ih (d + 1) (by omega)) (fun a q v a' q' h2 => ⟨decS_le _ _ _ _ _ _ _ h2, decS_q _ _ _ _ _ _ _ h2⟩)
end Go.Proofs.YtdmhemofhmfkoabGreatDoor

namespace Go.Proofs.YtdmhemofhmfkoabGreatDoor
open Go.RowKit
set_option maxRecDepth 8000
theorem fault_yes (W : World) (v : Value) : (Instr.typeAssert (.iface 64 v) 20 64 true).run Tryz.prog W = .ok (.tuple #[v, .bool true]) W := by kernel_rfl
set_option maxHeartbeats 2000000 in
theorem asFault_any (a e : Int) (w : World) : Calls Tryz.prog 35 #[faultV a e] w fun x w' => x = .returned (.agg #[.int .i64 a, .int .i64 e]) ∧ Below w.heap.size w w' := by
  have HT := fault_yes
  unfold faultV
  go_enter Tryz.func35, Tryz.ntmps35
  go_wp2
  refine bodyPost_ret (v := .agg #[.int .i64 a, .int .i64 e]) (by simp [results, Tryz.results35, go_sem]) rfl ⟨rfl, ((Below.refl _ _).alloc (Nat.le_refl _) _).alloc (by simp) _⟩
theorem fault_err (W : World) (a e : Int) : (Instr.field 64 (.agg #[.int .i64 a, .int .i64 e]) 1).run Tryz.prog W = .ok (.int .i64 e) W := by kernel_rfl
set_option maxHeartbeats 2000000 in
theorem catch_idle (p0 p1 p2 : Addr) (w : World) :
    CallsD Tryz.prog 38 #[.pointer (some p0), .pointer (some p1), .pointer (some p2)] .returning w fun x u' w' => x = .returned (.tuple #[]) ∧ u' = .returning ∧ w' = w := by
  refine callsD_of_wpS Tryz.func38 rfl fun c₀ cs hu => ?_
  apply wpS_seq
  apply wpS_region
  simp [wpOpsS, go_sem, recoverD, hu, Tryz.ntmps38, Exit.thenS]
  simp only [Array.replicate, List.replicate]
  refine wpS_of_wp ?_
  go_wp2_with fail
  cases c₀
  simp_all [bodyPostS, results, Tryz.results38]
set_option maxHeartbeats 2000000 in
theorem catch_fault (b0 b1 b2 : Nat) (a e : Int) (older : List PanicEntry) (w : World) (x0 x1 x2 x3 y z : Value) (h0 : Box w b0 #[x0, x1, x2, x3] 24) (h1 : Box w b1 #[y] 3) (h2 : Box w b2 #[z] 29) (h01 : b0 ≠ b1) (h02 : b0 ≠ b2) (h12 : b1 ≠ b2) :
    CallsD Tryz.prog 38 #[.pointer (some ⟨b0, 0, none⟩), .pointer (some ⟨b1, 0, none⟩), .pointer (some ⟨b2, 0, none⟩)] (.panicking ({ v := faultV a e, recovered := false } :: older)) w fun x u' w' =>
      x = .returned (.tuple #[]) ∧ u' = .panicking ({ v := faultV a e, recovered := true } :: older) ∧ Box w' b0 #[.int .i64 0, .int .i64 0, .string ⟨#[]⟩, .slice none 0 0] 24 ∧ Box w' b1 #[.int .i64 0] 3 ∧ Box w' b2 #[.int .i64 e] 29 ∧ But (fun y => y = b0 ∨ y = b1 ∨ y = b2) w w' := by
  have HA := fun W => asFault_any a e W
  have HE := fun W => fault_err W a e
  unfold faultV at *
  refine callsD_of_wpS Tryz.func38 rfl fun c₀ cs hu => ?_
  apply wpS_seq
  apply wpS_region
  simp [wpOpsS, go_sem, recoverD, hu, Tryz.ntmps38, Exit.thenS]
  simp only [Array.replicate, List.replicate]
  refine wpS_of_wp ?_
  go_wp2_with fail
  refine (HA _).mono ?_
  rintro x5 w2 ⟨rfl, hb2⟩
  have g0 := h0.below hb2
  have g1 := h1.below hb2
  have g2 := h2.below hb2
  have c0 := g0.cell 0
  have c1 := g0.cell 1
  have c2 := g0.cell 2
  have c3 := g0.cell 3
  have d0 := g1.cell 0
  have e0 := g2.cell 0
  have f0 := g0.frozen 0
  have f1 := g0.frozen 1
  have f2 := g0.frozen 2
  have f3 := g0.frozen 3
  have fd := g1.frozen 0
  have fe := g2.frozen 0
  simp at c0 c1 c2 c3 d0 e0
  have h10 := h01.symm
  have h20 := h02.symm
  have h21 := h12.symm
  go_wp2
  have hk4 : But (fun y => y = b0) w2 ((((w2.setCell ⟨b0, 0, none⟩ (.int .i64 0)).setCell ⟨b0, 1, none⟩ (.int .i64 0)).setCell ⟨b0, 2, none⟩ (.string ⟨#[]⟩)).setCell ⟨b0, 3, none⟩ (.slice none 0 0)) := ((((But.one _ b0).setAt 0 _).setAt 1 _).setAt 2 _).setAt 3 _
  refine ⟨rfl, _, rfl, .tuple #[], by simp [results, Tryz.results38], rfl, rfl, ?_, ?_, ?_, ?_⟩
  · exact ((setV_box g0 _ _ _ _).kept (Below.heap_setCell _ _ _ _ (show b0 ≠ b1 by omega))).kept (Below.heap_setCell _ _ _ _ (show b0 ≠ b2 by omega))
  · exact ((g1.but hk4 h10).set 0 (.int .i64 0)).kept (Below.heap_setCell _ _ _ _ (show b1 ≠ b2 by omega))
  · exact ((g2.but hk4 h20).kept (Below.heap_setCell _ _ _ _ (show b2 ≠ b1 by omega))).set 0 (.int .i64 e)
  · exact (((((((But.ofBelow hb2).setCell (p := ⟨b0, 0, none⟩) (fun _ => Or.inl rfl) _).setCell (p := ⟨b0, 1, none⟩) (fun _ => Or.inl rfl) _).setCell (p := ⟨b0, 2, none⟩) (fun _ => Or.inl rfl) _).setCell (p := ⟨b0, 3, none⟩) (fun _ => Or.inl rfl) _).setCell (p := ⟨b1, 0, none⟩) (fun _ => Or.inr (Or.inl rfl)) _).setCell (p := ⟨b2, 0, none⟩) (fun _ => Or.inr (Or.inr rfl)) _)
/-- what value.Decode comes to -/
def DecPost (w : World) (r : DR) (x : Ending) (w' : World) : Prop :=
  (∀ t a' q', r = .ok (t, a', q') → ∃ u, x = .returned (.tuple #[u.val, .int .i64 (a' : Int), .int .i64 0]) ∧ VT.Alike t u ∧ VT.In w' (fun b => w.heap.size ≤ b) u ∧ Below w.heap.size w w') ∧ (∀ e : Nat, r = .error e → x = .returned (.tuple #[.agg #[.int .i64 0, .int .i64 0, .string ⟨#[]⟩, .slice none 0 0], .int .i64 0, .int .i64 (e : Int)]) ∧ Below w.heap.size w w')
theorem dec_start (w : World) (A B C D : Array Value) (ta tb tc td : TypeId) :
    Box ((((w.alloc (.cells A ta)).alloc (.cells B tb)).alloc (.cells C tc)).alloc (.cells D td)) w.heap.size A ta ∧
    Box ((((w.alloc (.cells A ta)).alloc (.cells B tb)).alloc (.cells C tc)).alloc (.cells D td)) (w.heap.size + 1) B tb ∧
    Box ((((w.alloc (.cells A ta)).alloc (.cells B tb)).alloc (.cells C tc)).alloc (.cells D td)) (w.heap.size + 1 + 1) C tc ∧
    Box ((((w.alloc (.cells A ta)).alloc (.cells B tb)).alloc (.cells C tc)).alloc (.cells D td)) (w.heap.size + 1 + 1 + 1) D td ∧
    Below w.heap.size w ((((w.alloc (.cells A ta)).alloc (.cells B tb)).alloc (.cells C tc)).alloc (.cells D td)) ∧ ((((w.alloc (.cells A ta)).alloc (.cells B tb)).alloc (.cells C tc)).alloc (.cells D td)).heap.size = w.heap.size + 4 := by
  have z1 : (w.alloc (.cells A ta)).heap.size = w.heap.size + 1 := by simp
  have z2 : ((w.alloc (.cells A ta)).alloc (.cells B tb)).heap.size = w.heap.size + 1 + 1 := by simp
  have z3 : (((w.alloc (.cells A ta)).alloc (.cells B tb)).alloc (.cells C tc)).heap.size = w.heap.size + 1 + 1 + 1 := by simp
  have b1 := Box.new w A ta
  have b2 := Box.new (w.alloc (.cells A ta)) B tb
  have b3 := Box.new ((w.alloc (.cells A ta)).alloc (.cells B tb)) C tc
  have b4 := Box.new (((w.alloc (.cells A ta)).alloc (.cells B tb)).alloc (.cells C tc)) D td
  rw [z1] at b2
  rw [z2] at b3
  rw [z3] at b4
  have l1 := fun (W : World) o => (Below.refl W.heap.size W).alloc (Nat.le_refl _) o
  refine ⟨((b1.below (l1 _ _)).below (l1 _ _)).below (l1 _ _), (b2.below (l1 _ _)).below (l1 _ _), b3.below (l1 _ _), b4, ?_, by simp⟩
  exact ((((Below.refl _ _).alloc (Nat.le_refl _) _).alloc (by omega) _).alloc (by omega) _).alloc (by omega) _
set_option maxHeartbeats 4000000 in
theorem decode_any (p : Option Addr) (n c : Nat) (f : Nat → Int) (S : Nat → Prop) (w : World) (hY : Byts w S p n c f) (hS : ∀ b, S b → b < w.heap.size) :
    Calls Tryz.prog 13 #[.slice p n c] w fun x w' => DecPost w (decS f n 3 0 0 0) x w' := by
  have hmf : ∀ (fn : Fn) (first cap : Array Value) (w : World), (Instr.makeFunc fn first cap).run Tryz.prog w = .ok (.func fn first cap) w := fun _ _ _ _ => rfl
  obtain ⟨R, hR⟩ : ∃ R, R = decS f n 3 0 0 0 := ⟨_, rfl⟩
  rw [← hR]
  have HY := hid hY
  clear hY
  go_enter_defers Tryz.func13, Tryz.ntmps13
  go_wp2_with fail
  obtain ⟨q0, q1, q2, q3, hbe, hsz⟩ := dec_start w #[.int .i64 0, .int .i64 0, .string ⟨#[]⟩, .slice none 0 0] #[.int .i64 0] #[.int .i64 0] #[.slice p n c, .int .i64 0, .int .i64 0] 24 3 29 70
  generalize hW0 : ((((w.alloc (.cells #[.int .i64 0, .int .i64 0, .string ⟨#[]⟩, .slice none 0 0] 24)).alloc (.cells #[.int .i64 0] 3)).alloc (.cells #[.int .i64 0] 29)).alloc (.cells #[.slice p n c, .int .i64 0, .int .i64 0] 70)) = W0 at *
  have hYW : Byts W0 S p n c f := HY.out.kept hbe.size fun b hb _ => hbe.block b (hS b hb)
  have hC := part_any (w.heap.size + 1 + 1 + 1) p n c f 3 0 rfl W0 S 0 0 hYW (fun h => by have := hS _ h; omega) q3 (by omega) (by omega)
  rw [← hR] at hC
  refine hC.mono ?_
  intro x5 w5 hP5
  have hnd : ∀ b, b ≠ w.heap.size + 1 + 1 + 1 → ¬ b = w.heap.size + 1 + 1 + 1 := fun _ h => h
  cases R with
  | error e =>
    obtain ⟨⟨c5, rfl⟩, hk5⟩ := hP5.2 e rfl
    have g0 := q0.but hk5 (show w.heap.size ≠ w.heap.size + 1 + 1 + 1 by omega)
    have g1 := q1.but hk5 (show w.heap.size + 1 ≠ w.heap.size + 1 + 1 + 1 by omega)
    have g2 := q2.but hk5 (show w.heap.size + 1 + 1 ≠ w.heap.size + 1 + 1 + 1 by omega)
    refine leaves_cons (f := 38) (args := #[.pointer (some ⟨w.heap.size, 0, none⟩), .pointer (some ⟨w.heap.size + 1, 0, none⟩), .pointer (some ⟨w.heap.size + 1 + 1, 0, none⟩)]) (by simp) (by simp [go_sem]) ?_
    refine (catch_fault w.heap.size (w.heap.size + 1) (w.heap.size + 1 + 1) c5 e [] w5 _ _ _ _ _ _ g0 g1 g2 (by omega) (by omega) (by omega)).mono ?_
    rintro x6 u6 w6 ⟨rfl, rfl, r0, r1, r2, hk6⟩
    have c0 := r0.cell 0
    have c1 := r0.cell 1
    have c2 := r0.cell 2
    have c3 := r0.cell 3
    have d0 := r1.cell 0
    have e0 := r2.cell 0
    simp at c0 c1 c2 c3 d0 e0
    simp [Leaves, settle, results, Tryz.results13, go_sem, c0, c1, c2, c3, d0, e0]
    exact ⟨fun _ _ _ h => (by cases h), fun e2 h => by cases h; exact ⟨rfl, (hbe.trans (hk5.below (by omega) fun k hk => by omega)).trans (hk6.below (by have := hk5.size; omega) fun k hk => by omega)⟩⟩
  | ok tt =>
    obtain ⟨t, a', q'⟩ := tt
    obtain ⟨u, rfl, hau, hiu, hb5, hk5⟩ := hP5.1 t a' q' rfl
    simp only [VT.val]
    have g0 := q0.but hk5 (show w.heap.size ≠ w.heap.size + 1 + 1 + 1 by omega)
    have g1 := q1.but hk5 (show w.heap.size + 1 ≠ w.heap.size + 1 + 1 + 1 by omega)
    have g2 := q2.but hk5 (show w.heap.size + 1 + 1 ≠ w.heap.size + 1 + 1 + 1 by omega)
    have c0 := g0.cell 0
    have c1 := g0.cell 1
    have c2 := g0.cell 2
    have c3 := g0.cell 3
    have f0 := g0.frozen 0
    have f1 := g0.frozen 1
    have f2 := g0.frozen 2
    have f3 := g0.frozen 3
    simp at c0 c1 c2 c3
    go_wp2_with fail
    have r0 := setV_box g0 (.int .i64 u.kind) (.int .i64 u.int) (.string u.text) (.slice u.p u.n u.c)
    have hk6 : But (fun y => y = w.heap.size) w5 ((((w5.setCell ⟨w.heap.size, 0, none⟩ (.int .i64 u.kind)).setCell ⟨w.heap.size, 1, none⟩ (.int .i64 u.int)).setCell ⟨w.heap.size, 2, none⟩ (.string u.text)).setCell ⟨w.heap.size, 3, none⟩ (.slice u.p u.n u.c)) := ((((But.one _ w.heap.size).setAt 0 _).setAt 1 _).setAt 2 _).setAt 3 _
    generalize hW6 : ((((w5.setCell ⟨w.heap.size, 0, none⟩ (.int .i64 u.kind)).setCell ⟨w.heap.size, 1, none⟩ (.int .i64 u.int)).setCell ⟨w.heap.size, 2, none⟩ (.string u.text)).setCell ⟨w.heap.size, 3, none⟩ (.slice u.p u.n u.c)) = w6 at r0 hk6 ⊢
    have r1 := g1.but hk6 (show w.heap.size + 1 ≠ w.heap.size by omega)
    have r2 := g2.but hk6 (show w.heap.size + 1 + 1 ≠ w.heap.size by omega)
    have r3 := hb5.but hk6 (show w.heap.size + 1 + 1 + 1 ≠ w.heap.size by omega)
    have hu6 := hiu.but hk6 (fun b hb _ => by omega)
    have hbe6 : Below w.heap.size w w6 := (hbe.trans (hk5.below (by omega) fun k hk => by omega)).trans (hk6.below (by have := hk5.size; omega) fun k hk => by omega)
    have HX := hid (And.intro r0 (And.intro r1 (And.intro r2 (And.intro hu6 (And.intro hau hbe6)))))
    clear hW6 hW0 c0 c1 c2 c3 f0 f1 f2 f3 hiu hb5 hk5 hk6 g0 g1 g2 hP5 hC q0 q1 q2 q3 hYW hbe hau hu6 hbe6 hR
    have c0 := r0.cell 0
    have c1 := r0.cell 1
    have c2 := r0.cell 2
    have c3 := r0.cell 3
    have f0 := r0.frozen 0
    have f1 := r0.frozen 1
    have f2 := r0.frozen 2
    have f3 := r0.frozen 3
    have d0 := r1.cell 0
    have e0 := r2.cell 0
    have fd := r1.frozen 0
    have fe := r2.frozen 0
    have m1 := r3.cell 1
    simp at c0 c1 c2 c3 d0 e0 m1
    clear r0 r1 r2 r3
    go_region
    all_goals
      go_wp2
      obtain ⟨r0, r1, r2, hu6, hau, hbe6⟩ := HX.out
      have s0 := setV_box r0 (.int .i64 u.kind) (.int .i64 u.int) (.string u.text) (.slice u.p u.n u.c)
      have hk7 : But (fun y => y = w.heap.size) w6 ((((w6.setCell ⟨w.heap.size, 0, none⟩ (.int .i64 u.kind)).setCell ⟨w.heap.size, 1, none⟩ (.int .i64 u.int)).setCell ⟨w.heap.size, 2, none⟩ (.string u.text)).setCell ⟨w.heap.size, 3, none⟩ (.slice u.p u.n u.c)) := ((((But.one _ w.heap.size).setAt 0 _).setAt 1 _).setAt 2 _).setAt 3 _
      have s1 := r1.but hk7 (show w.heap.size + 1 ≠ w.heap.size by omega)
      have s2 := r2.but hk7 (show w.heap.size + 1 + 1 ≠ w.heap.size by omega)
      have hk8 := ((hk7.mono (Y := fun y => y = w.heap.size ∨ y = w.heap.size + 1 ∨ y = w.heap.size + 1 + 1) fun b _ hb => Or.inl hb).setCell (p := ⟨w.heap.size + 1, 0, none⟩) (fun _ => Or.inr (Or.inl rfl)) (.int .i64 (a' : Int))).setCell (p := ⟨w.heap.size + 1 + 1, 0, none⟩) (fun _ => Or.inr (Or.inr rfl)) (.int .i64 0)
      have t0 := (s0.kept (Below.heap_setCell _ ⟨w.heap.size + 1, 0, none⟩ (.int .i64 (a' : Int)) _ (show w.heap.size ≠ w.heap.size + 1 by omega))).kept (Below.heap_setCell _ ⟨w.heap.size + 1 + 1, 0, none⟩ (.int .i64 0) _ (show w.heap.size ≠ w.heap.size + 1 + 1 by omega))
      have t1 := (s1.set 0 (.int .i64 (a' : Int))).kept (Below.heap_setCell _ ⟨w.heap.size + 1 + 1, 0, none⟩ (.int .i64 0) _ (show w.heap.size + 1 ≠ w.heap.size + 1 + 1 by omega))
      have t2 := (s2.kept (Below.heap_setCell _ ⟨w.heap.size + 1, 0, none⟩ (.int .i64 (a' : Int)) _ (show w.heap.size + 1 + 1 ≠ w.heap.size + 1 by omega))).set 0 (.int .i64 0)
      generalize ((((((w6.setCell ⟨w.heap.size, 0, none⟩ (.int .i64 u.kind)).setCell ⟨w.heap.size, 1, none⟩ (.int .i64 u.int)).setCell ⟨w.heap.size, 2, none⟩ (.string u.text)).setCell ⟨w.heap.size, 3, none⟩ (.slice u.p u.n u.c)).setCell ⟨w.heap.size + 1, 0, none⟩ (.int .i64 (a' : Int))).setCell ⟨w.heap.size + 1 + 1, 0, none⟩ (.int .i64 0)) = w7 at hk8 t0 t1 t2 ⊢
      clear c0 c1 c2 c3 d0 e0 m1
      have c0 := t0.cell 0
      have c1 := t0.cell 1
      have c2 := t0.cell 2
      have c3 := t0.cell 3
      have d0 := t1.cell 0
      have e0 := t2.cell 0
      simp at c0 c1 c2 c3 d0 e0
      refine leaves_cons (f := 38) (args := #[.pointer (some ⟨w.heap.size, 0, none⟩), .pointer (some ⟨w.heap.size + 1, 0, none⟩), .pointer (some ⟨w.heap.size + 1 + 1, 0, none⟩)]) (by simp) (by simp [go_sem]) ?_
      refine (catch_idle ⟨w.heap.size, 0, none⟩ ⟨w.heap.size + 1, 0, none⟩ ⟨w.heap.size + 1 + 1, 0, none⟩ _).mono ?_
      rintro x8 u8 w8 ⟨rfl, rfl, rfl⟩
      simp [Leaves, settle, results, Tryz.results13, go_sem, c0, c1, c2, c3, d0, e0]
      refine ⟨fun t2 a2 q2 h => ?_, fun e2 h => (by cases h)⟩
      cases h
      exact ⟨u, rfl, hau, ((hu6.but hk8 (fun b hb _ => by omega)).mono fun b hb _ => by omega).kept (Nat.le_refl _) (fun _ _ _ => rfl), (hbe6.trans (hk8.below hbe6.size fun k hk => by omega)).drew⟩
end Go.Proofs.YtdmhemofhmfkoabGreatDoor

namespace Go.Proofs.YtdmhemofhmfkoabGreatDoor
open Go.RowKit
set_option maxRecDepth 8000
theorem idle_lead (p0 p1 p2 : Addr) (w : World) :
    CallsD Tryz.prog 34 #[.pointer (some p0), .pointer (some p1), .pointer (some p2)] .returning w fun x u' w' => x = .returned (.tuple #[]) ∧ u' = .returning ∧ w' = w := by
  refine callsD_of_wpS Tryz.func34 rfl fun c₀ cs hu => ?_
  apply wpS_seq
  apply wpS_region
  simp [wpOpsS, go_sem, recoverD, hu, Tryz.ntmps34, Exit.thenS]
  simp only [Array.replicate, List.replicate]
  refine wpS_of_wp ?_
  go_wp2_with fail
  cases c₀
  simp_all [bodyPostS, results, Tryz.results34]
set_option maxHeartbeats 2000000 in
theorem catch_lead (b0 b1 b2 : Nat) (a e : Int) (older : List PanicEntry) (w : World) (x0 x1 x2 x3 y z : Value) (h0 : Box w b0 #[x0, x1, x2, x3] 24) (h1 : Box w b1 #[y] 3) (h2 : Box w b2 #[z] 29) (h01 : b0 ≠ b1) (h02 : b0 ≠ b2) (h12 : b1 ≠ b2) :
    CallsD Tryz.prog 34 #[.pointer (some ⟨b0, 0, none⟩), .pointer (some ⟨b1, 0, none⟩), .pointer (some ⟨b2, 0, none⟩)] (.panicking ({ v := faultV a e, recovered := false } :: older)) w fun x u' w' =>
      x = .returned (.tuple #[]) ∧ u' = .panicking ({ v := faultV a e, recovered := true } :: older) ∧ Box w' b0 #[.int .i64 0, .int .i64 0, .string ⟨#[]⟩, .slice none 0 0] 24 ∧ Box w' b1 #[.int .i64 a] 3 ∧ Box w' b2 #[.int .i64 e] 29 ∧ But (fun y => y = b0 ∨ y = b1 ∨ y = b2) w w' := by
  have HA := hid (fun W => asFault_any a e W)
  unfold faultV at *
  refine callsD_of_wpS Tryz.func34 rfl fun c₀ cs hu => ?_
  apply wpS_seq
  apply wpS_region
  simp [wpOpsS, go_sem, recoverD, hu, Tryz.ntmps34, Exit.thenS]
  simp only [Array.replicate, List.replicate]
  refine wpS_of_wp ?_
  go_wp2_with fail
  refine (HA.out _).mono ?_
  rintro x5 w2 ⟨rfl, hb2⟩
  have ha3 : Below w2.heap.size w2 (w2.alloc (.cells #[.int .i64 a, .int .i64 e] 64)) := (Below.refl _ _).alloc (Nat.le_refl _) _
  have g0' := h0.below hb2
  have g1' := h1.below hb2
  have g2' := h2.below hb2
  have l0 := g0'.lt
  have l1 := g1'.lt
  have l2 := g2'.lt
  have g0 := g0'.below ha3
  have g1 := g1'.below ha3
  have g2 := g2'.below ha3
  have c0 := g0'.cell 0
  have c1 := g0'.cell 1
  have c2 := g0'.cell 2
  have c3 := g0'.cell 3
  have d0 := g1'.cell 0
  have e0 := g2'.cell 0
  have f0 := g0'.frozen 0
  have f1 := g0'.frozen 1
  have f2 := g0'.frozen 2
  have f3 := g0'.frozen 3
  have fd := g1'.frozen 0
  have fe := g2'.frozen 0
  simp at c0 c1 c2 c3 d0 e0
  have h10 := h01.symm
  have h20 := h02.symm
  have h21 := h12.symm
  have n0 : b0 ≠ w2.heap.size := by omega
  have n1 : b1 ≠ w2.heap.size := by omega
  have n2 : b2 ≠ w2.heap.size := by omega
  have n0' : w2.heap.size ≠ b0 := by omega
  have n1' : w2.heap.size ≠ b1 := by omega
  have n2' : w2.heap.size ≠ b2 := by omega
  have HX := hid (And.intro g0' (And.intro g1' (And.intro g2' (But.ofBelow (X := fun y => y = b0 ∨ y = b1 ∨ y = b2) hb2))))
  clear g0 g1 g2 g0' g1' g2' ha3 hb2 h0 h1 h2
  go_wp2_with fail
  go_region
  all_goals
    go_wp2
    obtain ⟨g0, g1, g2, hk⟩ := HX.out
    have hk4 : But (fun y => y = b0) w2 ((((w2.setCell ⟨b0, 0, none⟩ (.int .i64 0)).setCell ⟨b0, 1, none⟩ (.int .i64 0)).setCell ⟨b0, 2, none⟩ (.string ⟨#[]⟩)).setCell ⟨b0, 3, none⟩ (.slice none 0 0)) := ((((But.one _ b0).setAt 0 _).setAt 1 _).setAt 2 _).setAt 3 _
    have hlast : ∀ W : World, Below W.heap.size W (W.alloc (.cells #[.int .i64 a, .int .i64 e] 64)).drew := fun W => ((Below.refl _ _).alloc (Nat.le_refl _) _).drew
    refine ⟨rfl, _, rfl, .tuple #[], by simp [results, Tryz.results34], rfl, rfl, ?_, ?_, ?_, ?_⟩
    · exact (((setV_box g0 _ _ _ _).kept (Below.heap_setCell _ _ _ _ (show b0 ≠ b1 by omega))).kept (Below.heap_setCell _ _ _ _ (show b0 ≠ b2 by omega))).below (hlast _)
    · exact (((g1.but hk4 h10).set 0 (.int .i64 a)).kept (Below.heap_setCell _ _ _ _ (show b1 ≠ b2 by omega))).below (hlast _)
    · exact (((g2.but hk4 h20).kept (Below.heap_setCell _ _ _ _ (show b2 ≠ b1 by omega))).set 0 (.int .i64 e)).below (hlast _)
    · exact (((((((hk.setCell (p := ⟨b0, 0, none⟩) (fun _ => Or.inl rfl) _).setCell (p := ⟨b0, 1, none⟩) (fun _ => Or.inl rfl) _).setCell (p := ⟨b0, 2, none⟩) (fun _ => Or.inl rfl) _).setCell (p := ⟨b0, 3, none⟩) (fun _ => Or.inl rfl) _).setCell (p := ⟨b1, 0, none⟩) (fun _ => Or.inr (Or.inl rfl)) _).setCell (p := ⟨b2, 0, none⟩) (fun _ => Or.inr (Or.inr rfl)) _).trans (But.ofBelow (hlast _)))
/-- what value.Lead comes to -/
def LeadPost (w : World) (r : TR) (x : Ending) (w' : World) : Prop :=
  (∀ t a' q', r = .ok (t, a', q') → ∃ u, x = .returned (.tuple #[u.val, .int .i64 (a' : Int), .int .i64 0]) ∧ VT.Alike t u ∧ VT.In w' (fun b => w.heap.size ≤ b) u ∧ Below w.heap.size w w') ∧ (∀ p e : Nat, r = .error (p, e) → x = .returned (.tuple #[.agg #[.int .i64 0, .int .i64 0, .string ⟨#[]⟩, .slice none 0 0], .int .i64 (p : Int), .int .i64 (e : Int)]) ∧ Below w.heap.size w w')
set_option maxHeartbeats 4000000 in
theorem lead_any (B : Nat) (s : ByteArray) (w : World) (hs : s.size ≤ 140737488355328) (hB : B ≤ w.heap.size) (hT : Tabs B w) (hEr : Errs B w) :
    Calls Tryz.prog 11 #[.string s] w fun x w' => LeadPost w (parS s 3 0 0 0) x w' := by
  have hmf : ∀ (fn : Fn) (first cap : Array Value) (w : World), (Instr.makeFunc fn first cap).run Tryz.prog w = .ok (.func fn first cap) w := fun _ _ _ _ => rfl
  obtain ⟨R, hR⟩ : ∃ R, R = parS s 3 0 0 0 := ⟨_, rfl⟩
  rw [← hR]
  have HT := hid (And.intro hT hEr)
  clear hT hEr
  go_enter_defers Tryz.func11, Tryz.ntmps11
  go_wp2_with fail
  obtain ⟨q0, q1, q2, q3, hbe, hsz⟩ := dec_start w #[.int .i64 0, .int .i64 0, .string ⟨#[]⟩, .slice none 0 0] #[.int .i64 0] #[.int .i64 0] #[.string s, .int .i64 0, .int .i64 0] 24 3 29 67
  generalize hW0 : ((((w.alloc (.cells #[.int .i64 0, .int .i64 0, .string ⟨#[]⟩, .slice none 0 0] 24)).alloc (.cells #[.int .i64 0] 3)).alloc (.cells #[.int .i64 0] 29)).alloc (.cells #[.string s, .int .i64 0, .int .i64 0] 67)) = W0 at *
  have hbB : Below B w W0 := hbe.mono hB
  have hC := part_anyT B (w.heap.size + 1 + 1 + 1) s hs (by omega) 3 0 rfl W0 0 0 q3 (Nat.zero_le _) (by omega) (HT.out.1.on hbB) (HT.out.2.on hbB)
  rw [← hR] at hC
  refine hC.mono ?_
  intro x5 w5 hP5
  cases R with
  | error pe =>
    obtain ⟨p, e⟩ := pe
    obtain ⟨hx5, hk5⟩ := hP5.2 p e rfl
    unfold FailsAt at hx5
    subst hx5
    have g0 := q0.but hk5 (show w.heap.size ≠ w.heap.size + 1 + 1 + 1 by omega)
    have g1 := q1.but hk5 (show w.heap.size + 1 ≠ w.heap.size + 1 + 1 + 1 by omega)
    have g2 := q2.but hk5 (show w.heap.size + 1 + 1 ≠ w.heap.size + 1 + 1 + 1 by omega)
    refine leaves_cons (f := 34) (args := #[.pointer (some ⟨w.heap.size, 0, none⟩), .pointer (some ⟨w.heap.size + 1, 0, none⟩), .pointer (some ⟨w.heap.size + 1 + 1, 0, none⟩)]) (by simp) (by simp [go_sem]) ?_
    refine (catch_lead w.heap.size (w.heap.size + 1) (w.heap.size + 1 + 1) p e [] w5 _ _ _ _ _ _ g0 g1 g2 (by omega) (by omega) (by omega)).mono ?_
    rintro x6 u6 w6 ⟨rfl, rfl, r0, r1, r2, hk6⟩
    have c0 := r0.cell 0
    have c1 := r0.cell 1
    have c2 := r0.cell 2
    have c3 := r0.cell 3
    have d0 := r1.cell 0
    have e0 := r2.cell 0
    simp at c0 c1 c2 c3 d0 e0
    simp [Leaves, settle, results, Tryz.results11, go_sem, c0, c1, c2, c3, d0, e0]
    exact ⟨fun _ _ _ h => (by cases h), fun p2 e2 h => by cases h; exact ⟨rfl, (hbe.trans (hk5.below (by omega) fun k hk => by omega)).trans (hk6.below (by have := hk5.size; omega) fun k hk => by omega)⟩⟩
  | ok tt =>
    obtain ⟨t, a', q'⟩ := tt
    obtain ⟨u, rfl, hau, hiu, hb5, hk5⟩ := hP5.1 t a' q' rfl
    simp only [VT.val]
    have g0 := q0.but hk5 (show w.heap.size ≠ w.heap.size + 1 + 1 + 1 by omega)
    have g1 := q1.but hk5 (show w.heap.size + 1 ≠ w.heap.size + 1 + 1 + 1 by omega)
    have g2 := q2.but hk5 (show w.heap.size + 1 + 1 ≠ w.heap.size + 1 + 1 + 1 by omega)
    have c0 := g0.cell 0
    have c1 := g0.cell 1
    have c2 := g0.cell 2
    have c3 := g0.cell 3
    have f0 := g0.frozen 0
    have f1 := g0.frozen 1
    have f2 := g0.frozen 2
    have f3 := g0.frozen 3
    simp at c0 c1 c2 c3
    go_wp2_with fail
    have r0 := setV_box g0 (.int .i64 u.kind) (.int .i64 u.int) (.string u.text) (.slice u.p u.n u.c)
    have hk6 : But (fun y => y = w.heap.size) w5 ((((w5.setCell ⟨w.heap.size, 0, none⟩ (.int .i64 u.kind)).setCell ⟨w.heap.size, 1, none⟩ (.int .i64 u.int)).setCell ⟨w.heap.size, 2, none⟩ (.string u.text)).setCell ⟨w.heap.size, 3, none⟩ (.slice u.p u.n u.c)) := ((((But.one _ w.heap.size).setAt 0 _).setAt 1 _).setAt 2 _).setAt 3 _
    generalize hW6 : ((((w5.setCell ⟨w.heap.size, 0, none⟩ (.int .i64 u.kind)).setCell ⟨w.heap.size, 1, none⟩ (.int .i64 u.int)).setCell ⟨w.heap.size, 2, none⟩ (.string u.text)).setCell ⟨w.heap.size, 3, none⟩ (.slice u.p u.n u.c)) = w6 at r0 hk6 ⊢
    have r1 := g1.but hk6 (show w.heap.size + 1 ≠ w.heap.size by omega)
    have r2 := g2.but hk6 (show w.heap.size + 1 + 1 ≠ w.heap.size by omega)
    have r3 := Box.but hb5 hk6 (show w.heap.size + 1 + 1 + 1 ≠ w.heap.size by omega)
    have hu6 := hiu.but hk6 (fun b hb _ => by omega)
    have hbe6 : Below w.heap.size w w6 := (hbe.trans (hk5.below (by omega) fun k hk => by omega)).trans (hk6.below (by have := hk5.size; omega) fun k hk => by omega)
    have HX := hid (And.intro r0 (And.intro r1 (And.intro r2 (And.intro hu6 (And.intro hau hbe6)))))
    clear hW6 hW0 c0 c1 c2 c3 f0 f1 f2 f3 hiu hb5 hk5 hk6 g0 g1 g2 hP5 hC q0 q1 q2 q3 hbB hbe hau hu6 hbe6 hR
    have c0 := r0.cell 0
    have c1 := r0.cell 1
    have c2 := r0.cell 2
    have c3 := r0.cell 3
    have f0 := r0.frozen 0
    have f1 := r0.frozen 1
    have f2 := r0.frozen 2
    have f3 := r0.frozen 3
    have d0 := r1.cell 0
    have e0 := r2.cell 0
    have fd := r1.frozen 0
    have fe := r2.frozen 0
    have m1 := r3.cell 1
    simp at c0 c1 c2 c3 d0 e0 m1
    clear r0 r1 r2 r3
    go_region
    all_goals
      go_wp2
      obtain ⟨r0, r1, r2, hu6, hau, hbe6⟩ := HX.out
      have s0 := setV_box r0 (.int .i64 u.kind) (.int .i64 u.int) (.string u.text) (.slice u.p u.n u.c)
      have hk7 : But (fun y => y = w.heap.size) w6 ((((w6.setCell ⟨w.heap.size, 0, none⟩ (.int .i64 u.kind)).setCell ⟨w.heap.size, 1, none⟩ (.int .i64 u.int)).setCell ⟨w.heap.size, 2, none⟩ (.string u.text)).setCell ⟨w.heap.size, 3, none⟩ (.slice u.p u.n u.c)) := ((((But.one _ w.heap.size).setAt 0 _).setAt 1 _).setAt 2 _).setAt 3 _
      have s1 := r1.but hk7 (show w.heap.size + 1 ≠ w.heap.size by omega)
      have s2 := r2.but hk7 (show w.heap.size + 1 + 1 ≠ w.heap.size by omega)
      have hk8 := ((hk7.mono (Y := fun y => y = w.heap.size ∨ y = w.heap.size + 1 ∨ y = w.heap.size + 1 + 1) fun b _ hb => Or.inl hb).setCell (p := ⟨w.heap.size + 1, 0, none⟩) (fun _ => Or.inr (Or.inl rfl)) (.int .i64 (a' : Int))).setCell (p := ⟨w.heap.size + 1 + 1, 0, none⟩) (fun _ => Or.inr (Or.inr rfl)) (.int .i64 0)
      have t0 := (s0.kept (Below.heap_setCell _ ⟨w.heap.size + 1, 0, none⟩ (.int .i64 (a' : Int)) _ (show w.heap.size ≠ w.heap.size + 1 by omega))).kept (Below.heap_setCell _ ⟨w.heap.size + 1 + 1, 0, none⟩ (.int .i64 0) _ (show w.heap.size ≠ w.heap.size + 1 + 1 by omega))
      have t1 := (s1.set 0 (.int .i64 (a' : Int))).kept (Below.heap_setCell _ ⟨w.heap.size + 1 + 1, 0, none⟩ (.int .i64 0) _ (show w.heap.size + 1 ≠ w.heap.size + 1 + 1 by omega))
      have t2 := (s2.kept (Below.heap_setCell _ ⟨w.heap.size + 1, 0, none⟩ (.int .i64 (a' : Int)) _ (show w.heap.size + 1 + 1 ≠ w.heap.size + 1 by omega))).set 0 (.int .i64 0)
      generalize ((((((w6.setCell ⟨w.heap.size, 0, none⟩ (.int .i64 u.kind)).setCell ⟨w.heap.size, 1, none⟩ (.int .i64 u.int)).setCell ⟨w.heap.size, 2, none⟩ (.string u.text)).setCell ⟨w.heap.size, 3, none⟩ (.slice u.p u.n u.c)).setCell ⟨w.heap.size + 1, 0, none⟩ (.int .i64 (a' : Int))).setCell ⟨w.heap.size + 1 + 1, 0, none⟩ (.int .i64 0)) = w7 at hk8 t0 t1 t2 ⊢
      clear c0 c1 c2 c3 d0 e0 m1
      have c0 := t0.cell 0
      have c1 := t0.cell 1
      have c2 := t0.cell 2
      have c3 := t0.cell 3
      have d0 := t1.cell 0
      have e0 := t2.cell 0
      simp at c0 c1 c2 c3 d0 e0
      refine leaves_cons (f := 34) (args := #[.pointer (some ⟨w.heap.size, 0, none⟩), .pointer (some ⟨w.heap.size + 1, 0, none⟩), .pointer (some ⟨w.heap.size + 1 + 1, 0, none⟩)]) (by simp) (by simp [go_sem]) ?_
      refine (idle_lead ⟨w.heap.size, 0, none⟩ ⟨w.heap.size + 1, 0, none⟩ ⟨w.heap.size + 1 + 1, 0, none⟩ _).mono ?_
      rintro x8 u8 w8 ⟨rfl, rfl, rfl⟩
      simp [Leaves, settle, results, Tryz.results11, go_sem, c0, c1, c2, c3, d0, e0]
      refine ⟨fun t2 a2 q2 h => ?_, fun p2 e2 h => (by cases h)⟩
      cases h
      exact ⟨u, rfl, hau, ((hu6.but hk8 (fun b hb _ => by omega)).mono fun b hb _ => by omega).kept (Nat.le_refl _) (fun _ _ _ => rfl), (hbe6.trans (hk8.below hbe6.size fun k hk => by omega)).drew⟩
end Go.Proofs.YtdmhemofhmfkoabGreatDoor
