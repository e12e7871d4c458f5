import Derived.Test.YtdmhemofhmfkoabGreatDoorPack35
namespace Go.Proofs.YtdmhemofhmfkoabGreatDoor
open Go.RowKit
set_option maxRecDepth 8000
/-- what value.Parse comes to -/
def endS (s : ByteArray) (b : Nat) : TR → Except (Nat × Nat) (VT × Nat)
  | .error (p, e) => .error (b + p, e)
  | .ok (v, n, _) => if skS s (b + n) < s.size then .error (skS s (b + n), 28) else .ok (v, skS s (b + n))
def parseS (s : ByteArray) : Except (Nat × Nat) (VT × Nat) := endS s (blL s.data.toList) (parS (tl s (blL s.data.toList)) 3 0 0 0)
def ParsePost (w : World) (r : Except (Nat × Nat) (VT × Nat)) (x : Ending) (w' : World) : Prop :=
  (∀ t a', r = .ok (t, a') → ∃ u, x = .returned (.tuple #[u.val, .int .i64 (a' : Int), .int .i64 0]) ∧ VT.Alike t u ∧ VT.In w' (fun b => w.heap.size ≤ b) u ∧ Below w.heap.size w w') ∧ (∀ p e : Nat, r = .error (p, e) → x = .returned (.tuple #[.agg #[.int .i64 0, .int .i64 0, .string ⟨#[]⟩, .slice none 0 0], .int .i64 (p : Int), .int .i64 (e : Int)]) ∧ Below w.heap.size w w')

theorem known_ne {e : Nat} (h : Known e ∨ e = 29) : e ≠ 0 := by
  unfold Known at h
  omega
/-- what is read is valid; places lie in the text -/
theorem parse_read (s : ByteArray) : (∀ v a', parseS s = .ok (v, a') → (∃ q', chk v 0 0 = (0, q')) ∧ a' = s.size) ∧ (∀ p e, parseS s = .error (p, e) → p ≤ s.size ∧ (Known e ∨ e = 29)) := by
  have hb := blL_le s.data.toList
  rw [← Go.Lib.size_eq] at hb
  have hR := par_read (s := tl s (blL s.data.toList)) 3 0 0 0 rfl (Nat.zero_le _)
  have hz := tl_size s (blL s.data.toList)
  unfold parseS
  cases hp : parS (tl s (blL s.data.toList)) 3 0 0 0 with
  | error pe =>
    obtain ⟨p, e⟩ := pe
    obtain ⟨h1, h2⟩ := hR.err p e hp
    exact ⟨fun v a' h => (by cases h), fun p2 e2 h => (by simp only [endS, Except.error.injEq, Prod.mk.injEq] at h; obtain ⟨rfl, rfl⟩ := h; exact ⟨by omega, h2⟩)⟩
  | ok vnq =>
    obtain ⟨v, n, q'⟩ := vnq
    obtain ⟨h1, h2, h3⟩ := hR.ok v n q' hp
    have hsk := skS_le (s := s) (a := blL s.data.toList + n) (by omega)
    unfold endS
    simp only
    by_cases hlt : skS s (blL s.data.toList + n) < s.size
    · rw [if_pos hlt]
      exact ⟨fun v a' h => (by cases h), fun p2 e2 h => (by simp only [Except.error.injEq, Prod.mk.injEq] at h; obtain ⟨rfl, rfl⟩ := h; exact ⟨by omega, .inl (by simp [Known])⟩)⟩
    · rw [if_neg hlt]
      exact ⟨fun v2 a' h => (by simp only [Except.ok.injEq, Prod.mk.injEq] at h; obtain ⟨rfl, rfl⟩ := h; exact ⟨⟨q', h1⟩, by omega⟩), fun p e h => (by cases h)⟩

set_option maxHeartbeats 4000000 in
theorem parse_any (B : Nat) (s : ByteArray) (w : World) (hs : s.size ≤ 140737488355328) (hB : B ≤ w.heap.size) (hT : Tabs B w) (hEr : Errs B w) :
    Calls Tryz.prog 9 #[.string s] w fun x w' => ParsePost w (parseS s) x w' := by
  have hb := blL_le s.data.toList
  rw [← Go.Lib.size_eq] at hb
  have HBl := hid (fun W => blanks_any s W hs)
  obtain ⟨R, hR⟩ : ∃ R, R = parseS s := ⟨_, rfl⟩
  rw [← hR]
  unfold parseS at hR
  have hz := tl_size s (blL s.data.toList)
  have hRd := par_read (s := tl s (blL s.data.toList)) 3 0 0 0 rfl (Nat.zero_le _)
  have HLe := hid (fun W (hW : Below B w W) (hBW : B ≤ W.heap.size) => lead_any B (tl s (blL s.data.toList)) W (by omega) hBW (hT.on hW) (hEr.on hW))
  obtain ⟨b, hbe⟩ : ∃ b, blL s.data.toList = b := ⟨_, rfl⟩
  rw [hbe] at HBl hR hz HLe hb hRd
  have HRd := hid hRd
  have hbi : (b : Int) ≤ (s.size : Int) := by omega
  have ha1 : Below w.heap.size w (w.alloc (.cells #[.int .i64 0, .int .i64 0, .string ⟨#[]⟩, .slice none 0 0] 24)) := (Below.refl _ _).alloc (Nat.le_refl _) _
  have HZ1 := hid (Box.new w #[.int .i64 0, .int .i64 0, .string ⟨#[]⟩, .slice none 0 0] 24)
  have HA1 := hid ha1
  have HR := hid hR
  clear hT hEr hbe hRd ha1 hR
  go_enter Tryz.func9, Tryz.ntmps9
  go_wp2_with fail
  refine (HBl.out _).mono ?_
  rintro e w1 ⟨rfl, hb1⟩
  have hbw1 := HA1.out.trans (hb1.mono HA1.out.size)
  have hZ1 := HZ1.out.below hb1
  have hs1 := hbw1.size
  have HLw := hid (HLe.out w1 (hbw1.mono hB) (by omega))
  have HX1 := hid (And.intro hbw1 hZ1)
  clear hbw1 hZ1 HBl HZ1 HA1 hb1
  go_wp2_with fail
  refine HLw.out.mono ?_
  intro x2 w2 hP
  clear HLw HLe
  cases hp : parS (tl s b) 3 0 0 0 with
  | error pe =>
    obtain ⟨p, e⟩ := pe
    obtain ⟨hx, hb2⟩ := hP.2 p e hp
    subst hx
    obtain ⟨h1, h2⟩ := HRd.out.err p e hp
    have hRe : R = .error (b + p, e) := by rw [HR.out, hp]; rfl
    have he0 : ((e : Int) != 0) = true := by have := known_ne h2; simp; omega
    have hw : IntKind.i64.wrap ((b : Int) + (p : Int)) = ((b + p : Nat) : Int) := by rw [IntKind.wrap_i64]; omega
    have hbw2 := HX1.out.1.trans (hb2.mono HX1.out.1.size)
    have hZ2 := HX1.out.2.below hb2
    have s0 := hZ2.cell 0
    have s1 := hZ2.cell 1
    have s2 := hZ2.cell 2
    have s3 := hZ2.cell 3
    have sf0 := hZ2.frozen 0
    have sf1 := hZ2.frozen 1
    have sf2 := hZ2.frozen 2
    have sf3 := hZ2.frozen 3
    have sl := hZ2.lt
    simp at s0 s1 s2 s3
    have ha3 : Below w2.heap.size w2 (w2.alloc (.cells #[.int .i64 0, .int .i64 0, .string ⟨#[]⟩, .slice none 0 0] 24)) := (Below.refl _ _).alloc (Nat.le_refl _) _
    have hkf : But (fun y => y = w.heap.size) w2 ((((w2.setCell ⟨w.heap.size, 0, none⟩ (.int .i64 0)).setCell ⟨w.heap.size, 1, none⟩ (.int .i64 0)).setCell ⟨w.heap.size, 2, none⟩ (.string ⟨#[]⟩)).setCell ⟨w.heap.size, 3, none⟩ (.slice none 0 0)) := ((((But.one _ w.heap.size).setAt 0 _).setAt 1 _).setAt 2 _).setAt 3 _
    have HRes := hid ((setV_box hZ2 (.int .i64 0) (.int .i64 0) (.string ⟨#[]⟩) (.slice none 0 0)).below ((Below.refl _ _).alloc (Nat.le_refl _) (.cells #[.int .i64 0, .int .i64 0, .string ⟨#[]⟩, .slice none 0 0] 24)))
    have HBf := hid ((hbw2.trans (hkf.below (by omega) fun k hk => by omega)).trans (((Below.refl _ _).alloc (Nat.le_refl _) (.cells #[.int .i64 0, .int .i64 0, .string ⟨#[]⟩, .slice none 0 0] 24)).mono (by have := hkf.size; omega)))
    have HRe := hid hRe
    clear hP hp hb2 hbw2 hZ2 hkf ha3 hRe HX1 HR HRd
    go_wp2
    have r0 := HRes.out.cell 0
    have r1 := HRes.out.cell 1
    have r2 := HRes.out.cell 2
    have r3 := HRes.out.cell 3
    simp only [List.getElem?_toArray, List.getElem?_cons_zero, List.getElem?_cons_succ] at r0 r1 r2 r3
    refine bodyPost_ret (v := .tuple #[.agg #[.int .i64 0, .int .i64 0, .string ⟨#[]⟩, .slice none 0 0], .int .i64 ((b + p : Nat) : Int), .int .i64 (e : Int)]) (by simp [results, Tryz.results9, go_sem, r0, r1, r2, r3]) rfl ?_
    exact ⟨fun t a' h => (by rw [HRe.out] at h; cases h), fun p2 e2 h => (by rw [HRe.out] at h; cases h; exact ⟨rfl, HBf.out⟩)⟩
  | ok vnq =>
    obtain ⟨v, n, q'⟩ := vnq
    obtain ⟨u, hx, hal, hin, hb2⟩ := hP.1 v n q' hp
    obtain ⟨_, hn, _⟩ := HRd.out.ok v n q' hp
    have hRe : R = endS s b (.ok (v, n, q')) := by rw [HR.out, hp]
    unfold endS at hRe
    simp only at hRe
    have hsk := skS_le (s := s) (a := b + n) (by omega)
    have hbw2 := HX1.out.1.trans (hb2.mono HX1.out.1.size)
    have hwl1 := HX1.out.2.lt
    have hZ2 := HX1.out.2.below hb2
    have hwl2 := hZ2.lt
    have ha3 : Below w2.heap.size w2 (w2.alloc (.cells #[.int .i64 u.kind, .int .i64 u.int, .string u.text, .slice u.p u.n u.c] 24)) := (Below.refl _ _).alloc (Nat.le_refl _) _
    have hV3 := Box.new w2 #[.int .i64 u.kind, .int .i64 u.int, .string u.text, .slice u.p u.n u.c] 24
    have hw : IntKind.i64.wrap ((b : Int) + (n : Int)) = ((b + n : Nat) : Int) := by rw [IntKind.wrap_i64]; omega
    have hbn : ((b + n : Nat) : Int) ≤ (s.size : Int) := by omega
    have HBl2 : Hid (∀ W, Calls Tryz.prog 33 #[.string (s.extract (b + n) s.size)] W fun x w' => x = .returned (.int .i64 (blL (s.data.toList.drop (b + n)) : Nat)) ∧ Below W.heap.size W w') := fun W => by
      have h := blanks_any (tl s (b + n)) W (by rw [tl_size]; omega)
      rw [tl_list] at h
      exact h
    have hske : skS s (b + n) = b + n + blL (s.data.toList.drop (b + n)) := rfl
    obtain ⟨m, hm⟩ : ∃ m, blL (s.data.toList.drop (b + n)) = m := ⟨_, rfl⟩
    rw [hm] at HBl2 hske
    have HRe := hid hRe
    have HX3 := hid (And.intro (hbw2.trans (ha3.mono (by have := hbw2.size; omega))) (And.intro (hZ2.below ha3) (And.intro hV3 (And.intro (hin.below ha3) hal))))
    have hs2 := hbw2.size
    simp only [VT.val] at hx
    subst hx
    clear hP hp hb2 hbw2 hZ2 ha3 hV3 hin hal hRe HX1 HR HRd hm
    obtain ⟨A, hA⟩ : ∃ A, A = b + n := ⟨_, rfl⟩
    rw [← hA] at hw hbn HBl2 hske HRe hsk
    have hAm : IntKind.i64.wrap ((A : Int) + (m : Int)) = ((A + m : Nat) : Int) := by rw [IntKind.wrap_i64]; omega
    have hbA : (A : Int) ≤ (s.size : Int) := hbn
    clear hA
    go_wp2_with fail
    refine (HBl2.out _).mono ?_
    rintro e w4 ⟨rfl, hb4⟩
    have hs4 := hb4.size
    have hbw4 := HX3.out.1.trans (hb4.mono HX3.out.1.size)
    have hZ4 := HX3.out.2.1.below hb4
    have hV4 := HX3.out.2.2.1.below hb4
    have hin4 := HX3.out.2.2.2.1.below hb4
    have hal4 := HX3.out.2.2.2.2
    have s0 := hZ4.cell 0
    have s1 := hZ4.cell 1
    have s2 := hZ4.cell 2
    have s3 := hZ4.cell 3
    have sf0 := hZ4.frozen 0
    have sf1 := hZ4.frozen 1
    have sf2 := hZ4.frozen 2
    have sf3 := hZ4.frozen 3
    have sl := hZ4.lt
    have v0 := hV4.cell 0
    have v1 := hV4.cell 1
    have v2 := hV4.cell 2
    have v3 := hV4.cell 3
    have vl := hV4.lt
    simp at s0 s1 s2 s3 v0 v1 v2 v3
    have hne : w.heap.size ≠ w2.heap.size := by omega
    have hne' : w2.heap.size ≠ w.heap.size := fun h => hne h.symm
    by_cases hlt : A + m < s.size
    · have hlt' : ((A + m : Nat) : Int) < (s.size : Int) := by omega
      have hRf : R = .error (A + m, 28) := by rw [HRe.out, hske, if_pos hlt]
      have hkf : But (fun y => y = w.heap.size) w4 ((((w4.setCell ⟨w.heap.size, 0, none⟩ (.int .i64 0)).setCell ⟨w.heap.size, 1, none⟩ (.int .i64 0)).setCell ⟨w.heap.size, 2, none⟩ (.string ⟨#[]⟩)).setCell ⟨w.heap.size, 3, none⟩ (.slice none 0 0)) := ((((But.one _ w.heap.size).setAt 0 _).setAt 1 _).setAt 2 _).setAt 3 _
      have HRes := hid (setV_box hZ4 (.int .i64 0) (.int .i64 0) (.string ⟨#[]⟩) (.slice none 0 0))
      have HBf := hid (hbw4.trans (hkf.below (by omega) fun k hk => by omega))
      have HRf := hid hRf
      clear hbw4 hZ4 hV4 hin4 hal4 hkf hRf HX3 HRe HBl2
      go_wp2
      have r0 := HRes.out.cell 0
      have r1 := HRes.out.cell 1
      have r2 := HRes.out.cell 2
      have r3 := HRes.out.cell 3
      simp only [List.getElem?_toArray, List.getElem?_cons_zero, List.getElem?_cons_succ] at r0 r1 r2 r3
      refine bodyPost_ret (v := .tuple #[.agg #[.int .i64 0, .int .i64 0, .string ⟨#[]⟩, .slice none 0 0], .int .i64 ((A + m : Nat) : Int), .int .i64 28]) (by simp [results, Tryz.results9, go_sem, r0, r1, r2, r3]) rfl ?_
      exact ⟨fun t a' h => (by rw [HRf.out] at h; cases h), fun p2 e2 h => (by rw [HRf.out] at h; cases h; exact ⟨rfl, HBf.out⟩)⟩
    · have hlt' : ¬ ((A + m : Nat) : Int) < (s.size : Int) := by omega
      have hRf : R = .ok (v, A + m) := by rw [HRe.out, hske, if_neg hlt]
      have hkf : But (fun y => y = w.heap.size) w4 ((((w4.setCell ⟨w.heap.size, 0, none⟩ (.int .i64 u.kind)).setCell ⟨w.heap.size, 1, none⟩ (.int .i64 u.int)).setCell ⟨w.heap.size, 2, none⟩ (.string u.text)).setCell ⟨w.heap.size, 3, none⟩ (.slice u.p u.n u.c)) := ((((But.one _ w.heap.size).setAt 0 _).setAt 1 _).setAt 2 _).setAt 3 _
      have HRes := hid (setV_box hZ4 (.int .i64 u.kind) (.int .i64 u.int) (.string u.text) (.slice u.p u.n u.c))
      have HBf := hid (hbw4.trans (hkf.below (by omega) fun k hk => by omega))
      have hin5 := hin4.but hkf (fun b hb _ e => by omega)
      have HIn : Hid (VT.In _ (fun b => w.heap.size ≤ b) u) := hin5.mono fun b hb _ => by omega
      have HRf := hid hRf
      have HAl := hid hal4
      clear hbw4 hZ4 hV4 hin4 hal4 hkf hRf HX3 HRe HBl2 hin5
      go_wp2
      have r0 := HRes.out.cell 0
      have r1 := HRes.out.cell 1
      have r2 := HRes.out.cell 2
      have r3 := HRes.out.cell 3
      simp only [List.getElem?_toArray, List.getElem?_cons_zero, List.getElem?_cons_succ] at r0 r1 r2 r3
      refine bodyPost_ret (v := .tuple #[.agg #[.int .i64 u.kind, .int .i64 u.int, .string u.text, .slice u.p u.n u.c], .int .i64 ((A + m : Nat) : Int), .int .i64 0]) (by simp [results, Tryz.results9, go_sem, r0, r1, r2, r3]) rfl ?_
      exact ⟨fun t a' h => (by rw [HRf.out] at h; cases h; exact ⟨u, rfl, HAl.out, HIn.out, HBf.out⟩), fun p2 e2 h => (by rw [HRf.out] at h; cases h)⟩
end Go.Proofs.YtdmhemofhmfkoabGreatDoor
