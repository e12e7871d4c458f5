import Derived.Test.YtehpdhhlggegdaaDoorPack17
namespace Go.Proofs.YtehpdhhlggegdaaDoor
open Go.RowKit
set_option maxRecDepth 8000

/-- three values in a new list -/
def three (b : Nat) (t u v : VT) : VT := .mk 0 0 ⟨#[]⟩ 3 (some ⟨b, 0, none⟩) 3 (fun j => if j = 0 then t else if j = 1 then u else v)
theorem three_total (b : Nat) (t u v : VT) : (three b t u v).total = 3 + t.total + u.total + v.total := by simp [three, VT.total, List.range_succ]; omega
theorem three_in {w : World} {S : Nat → Prop} {t u v : VT} {b : Nat} (h : VT.In w S t) (h2 : VT.In w S u) (h3 : VT.In w S v) (hb : VT.At w b 0 t) (hb2 : VT.At w b 4 u) (hb3 : VT.At w b 8 v) (hS : S b) (hl : b < w.heap.size) : VT.In w S (three b t u v) := by
  refine ⟨⟨?_, ?_, ?_, ?_, ?_, Nat.le_refl 3, ?_, ?_, fun h => by cases h⟩, fun _ => ⟨b, 0, rfl, hS, hl, fun j hj => ?_⟩, fun j hj => ?_⟩
  · show (-9223372036854775808 : Int) ≤ 0; omega
  · show (0 : Int) ≤ 9223372036854775807; omega
  · show (-9223372036854775808 : Int) ≤ 0; omega
  · show (0 : Int) ≤ 9223372036854775807; omega
  · show (⟨#[]⟩ : ByteArray).size ≤ 140737488355328; decide
  · show 3 ≤ 140737488355328; omega
  · show 3 ≤ maxLen; unfold maxLen; omega
  · rcases (by omega : j = 0 ∨ j = 1 ∨ j = 2) with rfl | rfl | rfl
    · simpa using hb
    · simpa using hb2
    · simpa using hb3
  · rcases (by omega : j = 0 ∨ j = 1 ∨ j = 2) with rfl | rfl | rfl
    · simpa using h
    · simpa using h2
    · simpa using h3
set_option maxHeartbeats 4000000 in
theorem order_walk (t1 t2 t3 : VT) (w : World) (S : Nat → Prop) (hin1 : VT.In w S t1) (hin2 : VT.In w S t2) (hin3 : VT.In w S t3) (hS : ∀ b, S b → b < w.heap.size) (hT : Tabs w.heap.size w) :
    Calls Tryd.prog 3 #[t1.val, t2.val, t3.val] w fun e w' => e = .returned (.bool true) ∧ Below w.heap.size w w' := by
  have HI := hid (And.intro hin1 (And.intro hin2 (And.intro hin3 hS)))
  have HT := hid hT
  obtain ⟨k1, i1, s1, n1, p1, c1, f1, ht1⟩ := hin1.mk_
  obtain ⟨k2, i2, s2, n2, p2, c2, f2, ht2⟩ := hin2.mk_
  obtain ⟨k3, i3, s3, n3, p3, c3, f3, ht3⟩ := hin3.mk_
  clear hin1 hin2 hin3 hS hT
  simp only [VT.val, ht1, ht2, ht3, VT.kind_mk, VT.int_mk, VT.text_mk, VT.p_mk, VT.n_mk, VT.c_mk]
  go_enter Tryd.func3, Tryd.ntmps3
  go_wp2_with fail
  have hW0 : Below w.heap.size w ((((w.alloc (.cells #[.int .i64 k1, .int .i64 i1, .string s1, .slice p1 n1 c1] 24)).alloc (.cells #[.int .i64 k2, .int .i64 i2, .string s2, .slice p2 n2 c2] 24)).alloc (.cells #[.int .i64 k3, .int .i64 i3, .string s3, .slice p3 n3 c3] 24)).alloc (.cells #[.int .i64 k1, .int .i64 i1, .string s1, .slice p1 n1 c1, .int .i64 k2, .int .i64 i2, .string s2, .slice p2 n2 c2, .int .i64 k3, .int .i64 i3, .string s3, .slice p3 n3 c3] 24)) := ((((Below.refl _ _).alloc (Nat.le_refl _) _).alloc (by simp) _).alloc (by first | (simp; done) | (simp; omega)) _).alloc (by first | (simp; done) | (simp; omega)) _
  have hA : Box ((((w.alloc (.cells #[.int .i64 k1, .int .i64 i1, .string s1, .slice p1 n1 c1] 24)).alloc (.cells #[.int .i64 k2, .int .i64 i2, .string s2, .slice p2 n2 c2] 24)).alloc (.cells #[.int .i64 k3, .int .i64 i3, .string s3, .slice p3 n3 c3] 24)).alloc (.cells #[.int .i64 k1, .int .i64 i1, .string s1, .slice p1 n1 c1, .int .i64 k2, .int .i64 i2, .string s2, .slice p2 n2 c2, .int .i64 k3, .int .i64 i3, .string s3, .slice p3 n3 c3] 24)) w.heap.size #[.int .i64 k1, .int .i64 i1, .string s1, .slice p1 n1 c1] 24 := (Box.new w _ 24).below ((((Below.refl _ _).alloc (Nat.le_refl _) _).alloc (by simp) _).alloc (by first | (simp; done) | (simp; omega)) _)
  have hB : Box ((((w.alloc (.cells #[.int .i64 k1, .int .i64 i1, .string s1, .slice p1 n1 c1] 24)).alloc (.cells #[.int .i64 k2, .int .i64 i2, .string s2, .slice p2 n2 c2] 24)).alloc (.cells #[.int .i64 k3, .int .i64 i3, .string s3, .slice p3 n3 c3] 24)).alloc (.cells #[.int .i64 k1, .int .i64 i1, .string s1, .slice p1 n1 c1, .int .i64 k2, .int .i64 i2, .string s2, .slice p2 n2 c2, .int .i64 k3, .int .i64 i3, .string s3, .slice p3 n3 c3] 24)) (w.heap.size + 1) #[.int .i64 k2, .int .i64 i2, .string s2, .slice p2 n2 c2] 24 := by
    have h := (Box.new (w.alloc (.cells #[.int .i64 k1, .int .i64 i1, .string s1, .slice p1 n1 c1] 24)) #[.int .i64 k2, .int .i64 i2, .string s2, .slice p2 n2 c2] 24).below (((Below.refl _ _).alloc (Nat.le_refl _) (.cells #[.int .i64 k3, .int .i64 i3, .string s3, .slice p3 n3 c3] 24)).alloc (by simp) (.cells #[.int .i64 k1, .int .i64 i1, .string s1, .slice p1 n1 c1, .int .i64 k2, .int .i64 i2, .string s2, .slice p2 n2 c2, .int .i64 k3, .int .i64 i3, .string s3, .slice p3 n3 c3] 24))
    rw [show (w.alloc (.cells #[.int .i64 k1, .int .i64 i1, .string s1, .slice p1 n1 c1] 24)).heap.size = w.heap.size + 1 by simp] at h
    exact h
  have hC : Box ((((w.alloc (.cells #[.int .i64 k1, .int .i64 i1, .string s1, .slice p1 n1 c1] 24)).alloc (.cells #[.int .i64 k2, .int .i64 i2, .string s2, .slice p2 n2 c2] 24)).alloc (.cells #[.int .i64 k3, .int .i64 i3, .string s3, .slice p3 n3 c3] 24)).alloc (.cells #[.int .i64 k1, .int .i64 i1, .string s1, .slice p1 n1 c1, .int .i64 k2, .int .i64 i2, .string s2, .slice p2 n2 c2, .int .i64 k3, .int .i64 i3, .string s3, .slice p3 n3 c3] 24)) (w.heap.size + 2) #[.int .i64 k3, .int .i64 i3, .string s3, .slice p3 n3 c3] 24 := by
    have h := (Box.new ((w.alloc (.cells #[.int .i64 k1, .int .i64 i1, .string s1, .slice p1 n1 c1] 24)).alloc (.cells #[.int .i64 k2, .int .i64 i2, .string s2, .slice p2 n2 c2] 24)) #[.int .i64 k3, .int .i64 i3, .string s3, .slice p3 n3 c3] 24).below ((Below.refl _ _).alloc (Nat.le_refl _) (.cells #[.int .i64 k1, .int .i64 i1, .string s1, .slice p1 n1 c1, .int .i64 k2, .int .i64 i2, .string s2, .slice p2 n2 c2, .int .i64 k3, .int .i64 i3, .string s3, .slice p3 n3 c3] 24))
    rw [show ((w.alloc (.cells #[.int .i64 k1, .int .i64 i1, .string s1, .slice p1 n1 c1] 24)).alloc (.cells #[.int .i64 k2, .int .i64 i2, .string s2, .slice p2 n2 c2] 24)).heap.size = w.heap.size + 2 by simp] at h
    exact h
  have hR : Box ((((w.alloc (.cells #[.int .i64 k1, .int .i64 i1, .string s1, .slice p1 n1 c1] 24)).alloc (.cells #[.int .i64 k2, .int .i64 i2, .string s2, .slice p2 n2 c2] 24)).alloc (.cells #[.int .i64 k3, .int .i64 i3, .string s3, .slice p3 n3 c3] 24)).alloc (.cells #[.int .i64 k1, .int .i64 i1, .string s1, .slice p1 n1 c1, .int .i64 k2, .int .i64 i2, .string s2, .slice p2 n2 c2, .int .i64 k3, .int .i64 i3, .string s3, .slice p3 n3 c3] 24)) (w.heap.size + 3) #[.int .i64 k1, .int .i64 i1, .string s1, .slice p1 n1 c1, .int .i64 k2, .int .i64 i2, .string s2, .slice p2 n2 c2, .int .i64 k3, .int .i64 i3, .string s3, .slice p3 n3 c3] 24 := by
    have h := Box.new (((w.alloc (.cells #[.int .i64 k1, .int .i64 i1, .string s1, .slice p1 n1 c1] 24)).alloc (.cells #[.int .i64 k2, .int .i64 i2, .string s2, .slice p2 n2 c2] 24)).alloc (.cells #[.int .i64 k3, .int .i64 i3, .string s3, .slice p3 n3 c3] 24)) #[.int .i64 k1, .int .i64 i1, .string s1, .slice p1 n1 c1, .int .i64 k2, .int .i64 i2, .string s2, .slice p2 n2 c2, .int .i64 k3, .int .i64 i3, .string s3, .slice p3 n3 c3] 24
    rw [show (((w.alloc (.cells #[.int .i64 k1, .int .i64 i1, .string s1, .slice p1 n1 c1] 24)).alloc (.cells #[.int .i64 k2, .int .i64 i2, .string s2, .slice p2 n2 c2] 24)).alloc (.cells #[.int .i64 k3, .int .i64 i3, .string s3, .slice p3 n3 c3] 24)).heap.size = w.heap.size + 3 by simp] at h
    exact h
  have hsz4 : ((((w.alloc (.cells #[.int .i64 k1, .int .i64 i1, .string s1, .slice p1 n1 c1] 24)).alloc (.cells #[.int .i64 k2, .int .i64 i2, .string s2, .slice p2 n2 c2] 24)).alloc (.cells #[.int .i64 k3, .int .i64 i3, .string s3, .slice p3 n3 c3] 24)).alloc (.cells #[.int .i64 k1, .int .i64 i1, .string s1, .slice p1 n1 c1, .int .i64 k2, .int .i64 i2, .string s2, .slice p2 n2 c2, .int .i64 k3, .int .i64 i3, .string s3, .slice p3 n3 c3] 24)).heap.size = w.heap.size + 4 := by simp
  generalize hw4 : ((((w.alloc (.cells #[.int .i64 k1, .int .i64 i1, .string s1, .slice p1 n1 c1] 24)).alloc (.cells #[.int .i64 k2, .int .i64 i2, .string s2, .slice p2 n2 c2] 24)).alloc (.cells #[.int .i64 k3, .int .i64 i3, .string s3, .slice p3 n3 c3] 24)).alloc (.cells #[.int .i64 k1, .int .i64 i1, .string s1, .slice p1 n1 c1, .int .i64 k2, .int .i64 i2, .string s2, .slice p2 n2 c2, .int .i64 k3, .int .i64 i3, .string s3, .slice p3 n3 c3] 24)) = w1 at *
  have HSz := sizes_any (three (w.heap.size + 3) t1 t2 t3) w1 (fun b => b < w.heap.size + 4)
    (three_in ((HI.out.1.kept hW0.size fun b _ hl => hW0.block b hl).mono fun b hb _ => by have := HI.out.2.2.2 b hb; omega) ((HI.out.2.1.kept hW0.size fun b _ hl => hW0.block b hl).mono fun b hb _ => by have := HI.out.2.2.2 b hb; omega) ((HI.out.2.2.1.kept hW0.size fun b _ hl => hW0.block b hl).mono fun b hb _ => by have := HI.out.2.2.2 b hb; omega)
      (by rw [ht1]; exact ⟨hR.cell 0, hR.cell 1, hR.cell 2, hR.cell 3⟩) (by rw [ht2]; exact ⟨hR.cell 4, hR.cell 5, hR.cell 6, hR.cell 7⟩) (by rw [ht3]; exact ⟨hR.cell 8, hR.cell 9, hR.cell 10, hR.cell 11⟩) (by omega) (by omega)) (fun b hb => by omega)
  rw [three_total] at HSz
  have HA0 := hid (And.intro hA (And.intro hB hC))
  clear hA hB hC hR hw4
  refine HSz.mono ?_
  rintro e w2 ⟨r, rfl, hr, hb2⟩
  have hbw2 : Below w.heap.size w w2 := hW0.trans (hb2.mono hW0.size)
  have HA := hid (And.intro (HA0.out.1.below hb2) (And.intro (HA0.out.2.1.below hb2) (HA0.out.2.2.below hb2)))
  clear HSz hb2 hW0 HA0 hsz4
  cases r with
  | false =>
    go_wp2
    go_ret
    exact ⟨rfl, hbw2⟩
  | true =>
    have htot := hr rfl
    clear hr
    have HIn2 := hid (And.intro (HI.out.1.kept hbw2.size fun b _ hl => hbw2.block b hl) (And.intro (HI.out.2.1.kept hbw2.size fun b _ hl => hbw2.block b hl) (HI.out.2.2.1.kept hbw2.size fun b _ hl => hbw2.block b hl)))
    have hSl : ∀ W, Below w2.heap.size w2 W → ∀ b, S b → b < W.heap.size := fun W hW b hb => by have h1 := HI.out.2.2.2 b hb; have h2 := hbw2.size; have h3 := hW.size; omega
    have hTw : ∀ W, Below w2.heap.size w2 W → Tabs W.heap.size W := fun W hW => ((HT.out.on hbw2).on (hW.mono hbw2.size)).mono (Nat.le_trans hbw2.size hW.size)
    have hv1 := clean_val HIn2.out.1
    have hv2 := clean_val HIn2.out.2.1
    have hv3 := clean_val HIn2.out.2.2
    have HP12 : Hid (∀ W, Below w2.heap.size w2 W → Calls Tryd.prog 6 #[t1.val, t2.val] W fun e w' => e = .returned (.bool true) ∧ Below W.heap.size W w') := fun W hW => pair_any t1 t2 W S (HIn2.out.1.below hW) (HIn2.out.2.1.below hW) (hSl W hW) (by omega) (by omega) (hTw W hW) (pair_ok hv1 hv2)
    have HP23 : Hid (∀ W, Below w2.heap.size w2 W → Calls Tryd.prog 6 #[t2.val, t3.val] W fun e w' => e = .returned (.bool true) ∧ Below W.heap.size W w') := fun W hW => pair_any t2 t3 W S (HIn2.out.2.1.below hW) (HIn2.out.2.2.below hW) (hSl W hW) (by omega) (by omega) (hTw W hW) (pair_ok hv2 hv3)
    have HP13 : Hid (∀ W, Below w2.heap.size w2 W → Calls Tryd.prog 6 #[t1.val, t3.val] W fun e w' => e = .returned (.bool true) ∧ Below W.heap.size W w') := fun W hW => pair_any t1 t3 W S (HIn2.out.1.below hW) (HIn2.out.2.2.below hW) (hSl W hW) (by omega) (by omega) (hTw W hW) (pair_ok hv1 hv3)
    have HP11 : Hid (∀ W, Below w2.heap.size w2 W → Calls Tryd.prog 6 #[t1.val, t1.val] W fun e w' => e = .returned (.bool true) ∧ Below W.heap.size W w') := fun W hW => pair_any t1 t1 W S (HIn2.out.1.below hW) (HIn2.out.1.below hW) (hSl W hW) (by omega) (by omega) (hTw W hW) (pair_ok hv1 hv1)
    have HC12 : Hid (∀ W, Below w2.heap.size w2 W → Calls Tryd.prog 7 #[t1.val, t2.val] W fun e w' => e = .returned (.int .i64 (ordV (cleanT t1) (cleanT t2))) ∧ Below W.heap.size W w') := fun W hW => compare_any t1 t2 W S S (HIn2.out.1.below hW) (HIn2.out.2.1.below hW)
    have HC23 : Hid (∀ W, Below w2.heap.size w2 W → Calls Tryd.prog 7 #[t2.val, t3.val] W fun e w' => e = .returned (.int .i64 (ordV (cleanT t2) (cleanT t3))) ∧ Below W.heap.size W w') := fun W hW => compare_any t2 t3 W S S (HIn2.out.2.1.below hW) (HIn2.out.2.2.below hW)
    have HC13 : Hid (∀ W, Below w2.heap.size w2 W → Calls Tryd.prog 7 #[t1.val, t3.val] W fun e w' => e = .returned (.int .i64 (ordV (cleanT t1) (cleanT t3))) ∧ Below W.heap.size W w') := fun W hW => compare_any t1 t3 W S S (HIn2.out.1.below hW) (HIn2.out.2.2.below hW)
    have HTri := hid (And.intro (ordV_tri _ _ _ hv1 hv2 hv3) (And.intro (ordV_tri _ _ _ hv3 hv2 hv1) (And.intro (ordV_anti _ _ hv1 hv2) (And.intro (ordV_anti _ _ hv2 hv3) (ordV_anti _ _ hv1 hv3)))))
    have hx := ordV_range (cleanT t1) (cleanT t2)
    have hy := ordV_range (cleanT t2) (cleanT t3)
    have hz := ordV_range (cleanT t1) (cleanT t3)
    simp only [VT.val, ht1, ht2, ht3, VT.kind_mk, VT.int_mk, VT.text_mk, VT.p_mk, VT.n_mk, VT.c_mk] at HP12 HP23 HP13 HP11
    simp only [VT.val] at HC12 HC23 HC13
    generalize ordV (cleanT t1) (cleanT t2) = X at *
    generalize ordV (cleanT t2) (cleanT t3) = Y at *
    generalize ordV (cleanT t1) (cleanT t3) = Z at *
    simp only [ht1, ht2, ht3, VT.kind_mk, VT.int_mk, VT.text_mk, VT.p_mk, VT.n_mk, VT.c_mk] at HC12 HC23 HC13
    clear HIn2 hSl hTw hv1 hv2 hv3 HI HT ht1 ht2 ht3 htot
    have xa0 := (HA.out.1.below (Below.refl w2.heap.size w2)).cell 0
    have xa1 := (HA.out.1.below (Below.refl w2.heap.size w2)).cell 1
    have xa2 := (HA.out.1.below (Below.refl w2.heap.size w2)).cell 2
    have xa3 := (HA.out.1.below (Below.refl w2.heap.size w2)).cell 3
    have xb0 := (HA.out.2.1.below (Below.refl w2.heap.size w2)).cell 0
    have xb1 := (HA.out.2.1.below (Below.refl w2.heap.size w2)).cell 1
    have xb2 := (HA.out.2.1.below (Below.refl w2.heap.size w2)).cell 2
    have xb3 := (HA.out.2.1.below (Below.refl w2.heap.size w2)).cell 3
    have xc0 := (HA.out.2.2.below (Below.refl w2.heap.size w2)).cell 0
    have xc1 := (HA.out.2.2.below (Below.refl w2.heap.size w2)).cell 1
    have xc2 := (HA.out.2.2.below (Below.refl w2.heap.size w2)).cell 2
    have xc3 := (HA.out.2.2.below (Below.refl w2.heap.size w2)).cell 3
    simp at xa0 xa1 xa2 xa3 xb0 xb1 xb2 xb3 xc0 xc1 xc2 xc3
    go_wp2_with fail
    refine (HP12.out _ (Below.refl _ _)).mono ?_
    rintro e w3 ⟨rfl, hb3⟩
    clear xa0 xa1 xa2 xa3 xb0 xb1 xb2 xb3 xc0 xc1 xc2 xc3
    have xa0 := (HA.out.1.below hb3).cell 0
    have xa1 := (HA.out.1.below hb3).cell 1
    have xa2 := (HA.out.1.below hb3).cell 2
    have xa3 := (HA.out.1.below hb3).cell 3
    have xb0 := (HA.out.2.1.below hb3).cell 0
    have xb1 := (HA.out.2.1.below hb3).cell 1
    have xb2 := (HA.out.2.1.below hb3).cell 2
    have xb3 := (HA.out.2.1.below hb3).cell 3
    have xc0 := (HA.out.2.2.below hb3).cell 0
    have xc1 := (HA.out.2.2.below hb3).cell 1
    have xc2 := (HA.out.2.2.below hb3).cell 2
    have xc3 := (HA.out.2.2.below hb3).cell 3
    simp at xa0 xa1 xa2 xa3 xb0 xb1 xb2 xb3 xc0 xc1 xc2 xc3
    go_wp2_with fail
    refine (HP23.out _ hb3).mono ?_
    rintro e w4 ⟨rfl, hb4'⟩
    have hb4 : Below w2.heap.size w2 w4 := hb3.trans (hb4'.mono hb3.size)
    clear xa0 xa1 xa2 xa3 xb0 xb1 xb2 xb3 xc0 xc1 xc2 xc3 hb4' hb3
    have xa0 := (HA.out.1.below hb4).cell 0
    have xa1 := (HA.out.1.below hb4).cell 1
    have xa2 := (HA.out.1.below hb4).cell 2
    have xa3 := (HA.out.1.below hb4).cell 3
    have xb0 := (HA.out.2.1.below hb4).cell 0
    have xb1 := (HA.out.2.1.below hb4).cell 1
    have xb2 := (HA.out.2.1.below hb4).cell 2
    have xb3 := (HA.out.2.1.below hb4).cell 3
    have xc0 := (HA.out.2.2.below hb4).cell 0
    have xc1 := (HA.out.2.2.below hb4).cell 1
    have xc2 := (HA.out.2.2.below hb4).cell 2
    have xc3 := (HA.out.2.2.below hb4).cell 3
    simp at xa0 xa1 xa2 xa3 xb0 xb1 xb2 xb3 xc0 xc1 xc2 xc3
    go_wp2_with fail
    refine (HP13.out _ hb4).mono ?_
    rintro e w5 ⟨rfl, hb5'⟩
    have hb5 : Below w2.heap.size w2 w5 := hb4.trans (hb5'.mono hb4.size)
    clear xa0 xa1 xa2 xa3 xb0 xb1 xb2 xb3 xc0 xc1 xc2 xc3 hb5' hb4
    have xa0 := (HA.out.1.below hb5).cell 0
    have xa1 := (HA.out.1.below hb5).cell 1
    have xa2 := (HA.out.1.below hb5).cell 2
    have xa3 := (HA.out.1.below hb5).cell 3
    have xb0 := (HA.out.2.1.below hb5).cell 0
    have xb1 := (HA.out.2.1.below hb5).cell 1
    have xb2 := (HA.out.2.1.below hb5).cell 2
    have xb3 := (HA.out.2.1.below hb5).cell 3
    have xc0 := (HA.out.2.2.below hb5).cell 0
    have xc1 := (HA.out.2.2.below hb5).cell 1
    have xc2 := (HA.out.2.2.below hb5).cell 2
    have xc3 := (HA.out.2.2.below hb5).cell 3
    simp at xa0 xa1 xa2 xa3 xb0 xb1 xb2 xb3 xc0 xc1 xc2 xc3
    go_wp2_with fail
    refine (HP11.out _ hb5).mono ?_
    rintro e w6 ⟨rfl, hb6'⟩
    have hb6 : Below w2.heap.size w2 w6 := hb5.trans (hb6'.mono hb5.size)
    clear xa0 xa1 xa2 xa3 xb0 xb1 xb2 xb3 xc0 xc1 xc2 xc3 hb6' hb5 HP12 HP23 HP13 HP11
    have xa0 := (HA.out.1.below hb6).cell 0
    have xa1 := (HA.out.1.below hb6).cell 1
    have xa2 := (HA.out.1.below hb6).cell 2
    have xa3 := (HA.out.1.below hb6).cell 3
    have xb0 := (HA.out.2.1.below hb6).cell 0
    have xb1 := (HA.out.2.1.below hb6).cell 1
    have xb2 := (HA.out.2.1.below hb6).cell 2
    have xb3 := (HA.out.2.1.below hb6).cell 3
    have xc0 := (HA.out.2.2.below hb6).cell 0
    have xc1 := (HA.out.2.2.below hb6).cell 1
    have xc2 := (HA.out.2.2.below hb6).cell 2
    have xc3 := (HA.out.2.2.below hb6).cell 3
    simp at xa0 xa1 xa2 xa3 xb0 xb1 xb2 xb3 xc0 xc1 xc2 xc3
    go_wp2_with fail
    go_cut [7, 8, 9] (fun s7 s8 s9 wx => s7 = .int .i64 X ∧ s8 = .int .i64 Y ∧ s9 = .int .i64 Z ∧ Below w2.heap.size w2 wx)
    case first =>
      go_region_held (fun W => W.cell? ⟨w.heap.size, 0, none⟩ = some (.int .i64 k1) ∧ W.cell? ⟨w.heap.size, 1, none⟩ = some (.int .i64 i1) ∧ W.cell? ⟨w.heap.size, 2, none⟩ = some (.string s1) ∧ W.cell? ⟨w.heap.size, 3, none⟩ = some (.slice p1 n1 c1) ∧ W.cell? ⟨w.heap.size + 1, 0, none⟩ = some (.int .i64 k2) ∧ W.cell? ⟨w.heap.size + 1, 1, none⟩ = some (.int .i64 i2) ∧ W.cell? ⟨w.heap.size + 1, 2, none⟩ = some (.string s2) ∧ W.cell? ⟨w.heap.size + 1, 3, none⟩ = some (.slice p2 n2 c2) ∧ W.cell? ⟨w.heap.size + 2, 0, none⟩ = some (.int .i64 k3) ∧ W.cell? ⟨w.heap.size + 2, 1, none⟩ = some (.int .i64 i3) ∧ W.cell? ⟨w.heap.size + 2, 2, none⟩ = some (.string s3) ∧ W.cell? ⟨w.heap.size + 2, 3, none⟩ = some (.slice p3 n3 c3)) (go_keep)
        (first | (go_at_call 7; refine (HC12.out _ hb6.drew).mono ?_; rintro e w7 ⟨rfl, hb7'⟩; have hb7 : Below w2.heap.size w2 w7 := hb6.drew.trans (hb7'.mono hb6.size); have qa0 := (HA.out.1.below hb7).cell 0; have qa1 := (HA.out.1.below hb7).cell 1; have qa2 := (HA.out.1.below hb7).cell 2; have qa3 := (HA.out.1.below hb7).cell 3; have qb0 := (HA.out.2.1.below hb7).cell 0; have qb1 := (HA.out.2.1.below hb7).cell 1; have qb2 := (HA.out.2.1.below hb7).cell 2; have qb3 := (HA.out.2.1.below hb7).cell 3; have qc0 := (HA.out.2.2.below hb7).cell 0; have qc1 := (HA.out.2.2.below hb7).cell 1; have qc2 := (HA.out.2.2.below hb7).cell 2; have qc3 := (HA.out.2.2.below hb7).cell 3; simp at qa0 qa1 qa2 qa3 qb0 qb1 qb2 qb3 qc0 qc1 qc2 qc3) | (go_at_call 7; refine (HC23.out _ hb7).mono ?_; rintro e w8 ⟨rfl, hb8'⟩; have hb8 : Below w2.heap.size w2 w8 := hb7.trans (hb8'.mono hb7.size); have ra0 := (HA.out.1.below hb8).cell 0; have ra1 := (HA.out.1.below hb8).cell 1; have ra2 := (HA.out.1.below hb8).cell 2; have ra3 := (HA.out.1.below hb8).cell 3; have rb0 := (HA.out.2.1.below hb8).cell 0; have rb1 := (HA.out.2.1.below hb8).cell 1; have rb2 := (HA.out.2.1.below hb8).cell 2; have rb3 := (HA.out.2.1.below hb8).cell 3; have rc0 := (HA.out.2.2.below hb8).cell 0; have rc1 := (HA.out.2.2.below hb8).cell 1; have rc2 := (HA.out.2.2.below hb8).cell 2; have rc3 := (HA.out.2.2.below hb8).cell 3; simp at ra0 ra1 ra2 ra3 rb0 rb1 rb2 rb3 rc0 rc1 rc2 rc3) | (go_at_call 7; refine (HC13.out _ hb8).mono ?_; rintro e w9 ⟨rfl, hb9'⟩; have hb9 : Below w2.heap.size w2 w9 := hb8.trans (hb9'.mono hb8.size); have ma0 := (HA.out.1.below hb9).cell 0; have ma1 := (HA.out.1.below hb9).cell 1; have ma2 := (HA.out.1.below hb9).cell 2; have ma3 := (HA.out.1.below hb9).cell 3; have mb0 := (HA.out.2.1.below hb9).cell 0; have mb1 := (HA.out.2.1.below hb9).cell 1; have mb2 := (HA.out.2.1.below hb9).cell 2; have mb3 := (HA.out.2.1.below hb9).cell 3; have mc0 := (HA.out.2.2.below hb9).cell 0; have mc1 := (HA.out.2.2.below hb9).cell 1; have mc2 := (HA.out.2.2.below hb9).cell 2; have mc3 := (HA.out.2.2.below hb9).cell 3; simp at ma0 ma1 ma2 ma3 mb0 mb1 mb2 mb3 mc0 mc1 mc2 mc3))
      all_goals go_wp2_with fail
      all_goals go_meet
      all_goals exact ⟨rfl, rfl, rfl, hb9⟩
    case rest =>
      obtain ⟨h7, h8, h9, hb7⟩ := hcut
      subst h7 h8 h9
      have HF := hid (hbw2.trans (hb7.mono hbw2.size))
      clear xa0 xa1 xa2 xa3 xb0 xb1 xb2 xb3 xc0 xc1 xc2 xc3 HC12 HC23 HC13 hb6 hb7 HA hbw2
      obtain ⟨T1, T2, T3, T4, T5⟩ := HTri.out
      rw [T3, T4, T5] at T2
      unfold Tri at T1 T2
      clear HTri T3 T4 T5
      have h1 : X = -1 ∨ X = 0 ∨ X = 1 := by omega
      have h2 : Y = -1 ∨ Y = 0 ∨ Y = 1 := by omega
      have h3 : Z = -1 ∨ Z = 0 ∨ Z = 1 := by omega
      have HT12 := hid (And.intro T1 T2)
      clear hx hy hz T1 T2
      rcases h1 with rfl | rfl | rfl <;> rcases h2 with rfl | rfl | rfl <;> rcases h3 with rfl | rfl | rfl
      all_goals first
        | (exfalso; have h := HT12.out; omega)
        | (go_wp2; go_ret; exact ⟨rfl, HF.out⟩)
end Go.Proofs.YtehpdhhlggegdaaDoor
