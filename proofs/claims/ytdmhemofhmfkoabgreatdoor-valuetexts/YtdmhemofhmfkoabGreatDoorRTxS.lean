import Derived.Test.YtdmhemofhmfkoabGreatDoorRTxP
import Derived.Test.YtdmhemofhmfkoabGreatDoorParL
namespace Go.Proofs.YtdmhemofhmfkoabGreatDoor
open Go.RowKit
set_option maxRecDepth 8000
set_option maxHeartbeats 4000000 in
theorem refParse_any (s : ByteArray) (w : World) (hs : s.size ≤ 140737488355328) :
    Calls Tryz.prog 25 #[.string s] w fun x w' => ParsePost w (parseS s) x w' := by
  have hb := blL_le s.data.toList
  rw [← Go.Lib.size_eq] at hb
  have HBl : Hid (∀ W, Calls Tryz.prog 53 #[.string s, .int .i64 0] W fun x w' => x = .returned (.int .i64 (blL s.data.toList : Nat)) ∧ Below W.heap.size W w') := fun W => by
    have h := refBlanks_any s 0 W (Nat.zero_le _) hs
    have e : blE s 0 = blL s.data.toList := by unfold blE; simp
    rw [e] at h
    exact h
  obtain ⟨R, hR⟩ : ∃ R, R = parseS s := ⟨_, rfl⟩
  rw [← hR]
  unfold parseS at hR
  have hz := tl_size s (blL s.data.toList)
  have hRd := par_read (s := tl s (blL s.data.toList)) 3 0 0 0 rfl (Nat.zero_le _)
  have HLe := hid (fun W => refLead_any (tl s (blL s.data.toList)) W (by omega))
  obtain ⟨b, hbe⟩ : ∃ b, blL s.data.toList = b := ⟨_, rfl⟩
  rw [hbe] at HBl hR hz HLe hb hRd
  have HRd := hid hRd
  have hbi : (b : Int) ≤ (s.size : Int) := by omega
  have ha1 : Below w.heap.size w (w.alloc (.cells #[.int .i64 0, .int .i64 0, .string ⟨#[]⟩, .slice none 0 0] 24)) := (Below.refl _ _).alloc (Nat.le_refl _) _
  have HZ1 := hid (Box.new w #[.int .i64 0, .int .i64 0, .string ⟨#[]⟩, .slice none 0 0] 24)
  have HA1 := hid ha1
  have HR := hid hR
  clear hbe hRd ha1 hR
  go_enter Tryz.func25, Tryz.ntmps25
  go_wp2_with fail
  refine (HBl.out _).mono ?_
  rintro e w1 ⟨rfl, hb1⟩
  have hbw1 := HA1.out.trans (hb1.mono HA1.out.size)
  have hZ1 := HZ1.out.below hb1
  have hs1 := hbw1.size
  have HLw := hid (HLe.out w1)
  have HX1 := hid (And.intro hbw1 hZ1)
  clear hbw1 hZ1 HBl HZ1 HA1 hb1
  go_wp2_with fail
  refine HLw.out.mono ?_
  intro x2 w2 hP
  clear HLw HLe
  cases hp : parS (tl s b) 3 0 0 0 with
  | error pe =>
    obtain ⟨p, e⟩ := pe
    obtain ⟨hx, hb2⟩ := hP.2 p e hp
    subst hx
    obtain ⟨h1, h2⟩ := HRd.out.err p e hp
    have hRe : R = .error (b + p, e) := by rw [HR.out, hp]; rfl
    have he0 : ((e : Int) != 0) = true := by have := known_ne h2; simp; omega
    have hw : IntKind.i64.wrap ((b : Int) + (p : Int)) = ((b + p : Nat) : Int) := by rw [IntKind.wrap_i64]; omega
    have hbw2 := HX1.out.1.trans (hb2.mono HX1.out.1.size)
    have hZ2 := HX1.out.2.below hb2
    have s0 := hZ2.cell 0
    have s1 := hZ2.cell 1
    have s2 := hZ2.cell 2
    have s3 := hZ2.cell 3
    have sf0 := hZ2.frozen 0
    have sf1 := hZ2.frozen 1
    have sf2 := hZ2.frozen 2
    have sf3 := hZ2.frozen 3
    have sl := hZ2.lt
    simp at s0 s1 s2 s3
    have ha3 : Below w2.heap.size w2 (w2.alloc (.cells #[.int .i64 0, .int .i64 0, .string ⟨#[]⟩, .slice none 0 0] 24)) := (Below.refl _ _).alloc (Nat.le_refl _) _
    have hkf : But (fun y => y = w.heap.size) w2 ((((w2.setCell ⟨w.heap.size, 0, none⟩ (.int .i64 0)).setCell ⟨w.heap.size, 1, none⟩ (.int .i64 0)).setCell ⟨w.heap.size, 2, none⟩ (.string ⟨#[]⟩)).setCell ⟨w.heap.size, 3, none⟩ (.slice none 0 0)) := ((((But.one _ w.heap.size).setAt 0 _).setAt 1 _).setAt 2 _).setAt 3 _
    have HRes := hid ((setV_box hZ2 (.int .i64 0) (.int .i64 0) (.string ⟨#[]⟩) (.slice none 0 0)).below ((Below.refl _ _).alloc (Nat.le_refl _) (.cells #[.int .i64 0, .int .i64 0, .string ⟨#[]⟩, .slice none 0 0] 24)))
    have HBf := hid ((hbw2.trans (hkf.below (by omega) fun k hk => by omega)).trans (((Below.refl _ _).alloc (Nat.le_refl _) (.cells #[.int .i64 0, .int .i64 0, .string ⟨#[]⟩, .slice none 0 0] 24)).mono (by have := hkf.size; omega)))
    have HRe := hid hRe
    clear hP hp hb2 hbw2 hZ2 hkf ha3 hRe HX1 HR HRd
    go_wp2
    have r0 := HRes.out.cell 0
    have r1 := HRes.out.cell 1
    have r2 := HRes.out.cell 2
    have r3 := HRes.out.cell 3
    simp only [List.getElem?_toArray, List.getElem?_cons_zero, List.getElem?_cons_succ] at r0 r1 r2 r3
    refine bodyPost_ret (v := .tuple #[.agg #[.int .i64 0, .int .i64 0, .string ⟨#[]⟩, .slice none 0 0], .int .i64 ((b + p : Nat) : Int), .int .i64 (e : Int)]) (by simp [results, Tryz.results25, go_sem, r0, r1, r2, r3]) rfl ?_
    exact ⟨fun t a' h => (by rw [HRe.out] at h; cases h), fun p2 e2 h => (by rw [HRe.out] at h; cases h; exact ⟨rfl, HBf.out⟩)⟩
  | ok vnq =>
    obtain ⟨v, n, q'⟩ := vnq
    obtain ⟨u, hx, hal, hin, hb2⟩ := hP.1 v n q' hp
    obtain ⟨_, hn, _⟩ := HRd.out.ok v n q' hp
    have hRe : R = endS s b (.ok (v, n, q')) := by rw [HR.out, hp]
    unfold endS at hRe
    simp only at hRe
    have hsk := skS_le (s := s) (a := b + n) (by omega)
    have hbw2 := HX1.out.1.trans (hb2.mono HX1.out.1.size)
    have hwl1 := HX1.out.2.lt
    have hZ2 := HX1.out.2.below hb2
    have hwl2 := hZ2.lt
    have ha3 : Below w2.heap.size w2 (w2.alloc (.cells #[.int .i64 u.kind, .int .i64 u.int, .string u.text, .slice u.p u.n u.c] 24)) := (Below.refl _ _).alloc (Nat.le_refl _) _
    have hV3 := Box.new w2 #[.int .i64 u.kind, .int .i64 u.int, .string u.text, .slice u.p u.n u.c] 24
    have hw : IntKind.i64.wrap ((b : Int) + (n : Int)) = ((b + n : Nat) : Int) := by rw [IntKind.wrap_i64]; omega
    have hbn : ((b + n : Nat) : Int) ≤ (s.size : Int) := by omega
    have HBl2 : Hid (∀ W, Calls Tryz.prog 53 #[.string s, .int .i64 ((b + n : Nat) : Int)] W fun x w' => x = .returned (.int .i64 (skS s (b + n) : Nat)) ∧ Below W.heap.size W w') := fun W => refBlanks_any s (b + n) W (by omega) hs
    obtain ⟨C, hC⟩ : ∃ C, skS s (b + n) = C := ⟨_, rfl⟩
    rw [hC] at HBl2 hRe hsk
    have HRe := hid hRe
    have HX3 := hid (And.intro (hbw2.trans (ha3.mono (by have := hbw2.size; omega))) (And.intro (hZ2.below ha3) (And.intro hV3 (And.intro (hin.below ha3) hal))))
    have hs2 := hbw2.size
    simp only [VT.val] at hx
    subst hx
    clear hP hp hb2 hbw2 hZ2 ha3 hV3 hin hal hRe HX1 HR HRd hC
    go_wp2_with fail
    refine (HBl2.out _).mono ?_
    rintro e w4 ⟨rfl, hb4⟩
    have hs4 := hb4.size
    have hbw4 := HX3.out.1.trans (hb4.mono HX3.out.1.size)
    have hZ4 := HX3.out.2.1.below hb4
    have hV4 := HX3.out.2.2.1.below hb4
    have hin4 := HX3.out.2.2.2.1.below hb4
    have hal4 := HX3.out.2.2.2.2
    have s0 := hZ4.cell 0
    have s1 := hZ4.cell 1
    have s2 := hZ4.cell 2
    have s3 := hZ4.cell 3
    have sf0 := hZ4.frozen 0
    have sf1 := hZ4.frozen 1
    have sf2 := hZ4.frozen 2
    have sf3 := hZ4.frozen 3
    have sl := hZ4.lt
    have v0 := hV4.cell 0
    have v1 := hV4.cell 1
    have v2 := hV4.cell 2
    have v3 := hV4.cell 3
    have vl := hV4.lt
    simp at s0 s1 s2 s3 v0 v1 v2 v3
    have hne : w.heap.size ≠ w2.heap.size := by omega
    have hne' : w2.heap.size ≠ w.heap.size := fun h => hne h.symm
    by_cases hlt : C < s.size
    · have hlt' : (C : Int) < (s.size : Int) := by omega
      have hRf : R = .error (C, 28) := by rw [HRe.out, if_pos hlt]
      have hkf : But (fun y => y = w.heap.size) w4 ((((w4.setCell ⟨w.heap.size, 0, none⟩ (.int .i64 0)).setCell ⟨w.heap.size, 1, none⟩ (.int .i64 0)).setCell ⟨w.heap.size, 2, none⟩ (.string ⟨#[]⟩)).setCell ⟨w.heap.size, 3, none⟩ (.slice none 0 0)) := ((((But.one _ w.heap.size).setAt 0 _).setAt 1 _).setAt 2 _).setAt 3 _
      have HRes := hid (setV_box hZ4 (.int .i64 0) (.int .i64 0) (.string ⟨#[]⟩) (.slice none 0 0))
      have HBf := hid (hbw4.trans (hkf.below (by omega) fun k hk => by omega))
      have HRf := hid hRf
      clear hbw4 hZ4 hV4 hin4 hal4 hkf hRf HX3 HRe HBl2
      go_wp2
      have r0 := HRes.out.cell 0
      have r1 := HRes.out.cell 1
      have r2 := HRes.out.cell 2
      have r3 := HRes.out.cell 3
      simp only [List.getElem?_toArray, List.getElem?_cons_zero, List.getElem?_cons_succ] at r0 r1 r2 r3
      refine bodyPost_ret (v := .tuple #[.agg #[.int .i64 0, .int .i64 0, .string ⟨#[]⟩, .slice none 0 0], .int .i64 (C : Int), .int .i64 28]) (by simp [results, Tryz.results25, go_sem, r0, r1, r2, r3]) rfl ?_
      exact ⟨fun t a' h => (by rw [HRf.out] at h; cases h), fun p2 e2 h => (by rw [HRf.out] at h; cases h; exact ⟨rfl, HBf.out⟩)⟩
    · have hlt' : ¬ (C : Int) < (s.size : Int) := by omega
      have hRf : R = .ok (v, C) := by rw [HRe.out, if_neg hlt]
      have hkf : But (fun y => y = w.heap.size) w4 ((((w4.setCell ⟨w.heap.size, 0, none⟩ (.int .i64 u.kind)).setCell ⟨w.heap.size, 1, none⟩ (.int .i64 u.int)).setCell ⟨w.heap.size, 2, none⟩ (.string u.text)).setCell ⟨w.heap.size, 3, none⟩ (.slice u.p u.n u.c)) := ((((But.one _ w.heap.size).setAt 0 _).setAt 1 _).setAt 2 _).setAt 3 _
      have HRes := hid (setV_box hZ4 (.int .i64 u.kind) (.int .i64 u.int) (.string u.text) (.slice u.p u.n u.c))
      have HBf := hid (hbw4.trans (hkf.below (by omega) fun k hk => by omega))
      have hin5 := hin4.but hkf (fun b hb _ e => by omega)
      have HIn : Hid (VT.In _ (fun b => w.heap.size ≤ b) u) := hin5.mono fun b hb _ => by omega
      have HRf := hid hRf
      have HAl := hid hal4
      clear hbw4 hZ4 hV4 hin4 hal4 hkf hRf HX3 HRe HBl2 hin5
      go_wp2
      have r0 := HRes.out.cell 0
      have r1 := HRes.out.cell 1
      have r2 := HRes.out.cell 2
      have r3 := HRes.out.cell 3
      simp only [List.getElem?_toArray, List.getElem?_cons_zero, List.getElem?_cons_succ] at r0 r1 r2 r3
      refine bodyPost_ret (v := .tuple #[.agg #[.int .i64 u.kind, .int .i64 u.int, .string u.text, .slice u.p u.n u.c], .int .i64 (C : Int), .int .i64 0]) (by simp [results, Tryz.results25, go_sem, r0, r1, r2, r3]) rfl ?_
      exact ⟨fun t a' h => (by rw [HRf.out] at h; cases h; exact ⟨u, rfl, HAl.out, HIn.out, HBf.out⟩), fun p2 e2 h => (by rw [HRf.out] at h; cases h)⟩
end Go.Proofs.YtdmhemofhmfkoabGreatDoor
