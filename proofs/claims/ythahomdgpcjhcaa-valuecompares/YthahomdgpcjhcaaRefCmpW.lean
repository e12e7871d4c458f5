import Derived.Test.YthahomdgpcjhcaaRefCmp
namespace Go.Proofs.Ythahomdgpcjhcaa
open Go.RowKit
set_option maxRecDepth 8000

/-- the order of two texts, as it is asked for -/
def cmp3 (a b : List UInt8) : Int := if Op.bytesLess a b = true then -1 else if (a == b) = true then 0 else 1
theorem clean_len {t : VT} : (flatP (cleanT t)).length ≤ 12 := by
  unfold cleanT
  split
  · rename_i h
    have h1 := chk_len t 0 0 h
    have h2 := (chk_le t 0 0 (by omega)).2 h
    omega
  · simp [zeroT, flatP]
/-- bytes as a text -/
def strOf (zs : List Int) : ByteArray := zs.foldl (fun r n => r.push (UInt8.ofNat n.toNat)) ByteArray.empty
theorem conv_any {w : World} {base b c : Nat} {zs : List Int} (h : OwnBy base w (.slice (some ⟨b, 0, none⟩) zs.length c) zs) : (convert 62 9 (.slice (some ⟨b, 0, none⟩) zs.length c)).run Try.prog w = .ok (.string (strOf zs)) w := by
  rw [run_convert_bytes_string (P := Try.prog) w 62 9 5 _ _ _ Try.underlying62 Try.underlying5 Try.underlying9]
  have hl := run_loadCells_list (P := Try.prog) (w := w) ⟨b, 0, none⟩ (zs.map (Value.int .u8)) (World.ownsRow.cells h rfl)
  rw [List.length_map] at hl
  exact run_bytesToString w ⟨b, 0, none⟩ zs.length c zs hl

set_option maxHeartbeats 2000000 in
theorem refCompare_any (t u : VT) (w : World) (S R : Nat → Prop) (hin : VT.In w S t) (hiu : VT.In w R u) :
    Calls Try.prog 15 #[t.val, u.val] w fun e w' => e = .returned (.int .i64 (cmp3 (strOf (rankB (cleanT t))).toList (strOf (rankB (cleanT u))).toList)) ∧ Below w.heap.size w w' := by
  have H1 : Hid (∀ W, Below w.heap.size w W → Calls Try.prog 46 #[t.val] W fun e w' => PartsPost W t e w') := fun W hW => parts_any t W S (hin.below hW)
  have H2 : Hid (∀ W, Below w.heap.size w W → Calls Try.prog 46 #[u.val] W fun e w' => PartsPost W u e w') := fun W hW => parts_any u W R (hiu.below hW)
  have hv1 := clean_val hin
  have hv2 := clean_val hiu
  clear hin hiu
  obtain ⟨r, HRr⟩ : ∃ r, Hid (cmp3 (strOf (rankB (cleanT t))).toList (strOf (rankB (cleanT u))).toList = r) := ⟨cmp3 (strOf (rankB (cleanT t))).toList (strOf (rankB (cleanT u))).toList, by unfold Hid; rfl⟩
  rw [HRr.out]
  unfold VT.val at H1 H2 ⊢
  go_enter Try.func15, Try.ntmps15
  go_wp2_with fail
  refine (H1.out _ ?_).mono ?_
  · exact ((Below.refl _ _).alloc (Nat.le_refl _) _).alloc (by simp) _
  intro e w1 hP
  obtain ⟨g1, c1, rfl, ho1, hb1⟩ := hP
  have hU1 : Box w1 (w.heap.size + 1) #[.int .i64 u.kind, .int .i64 u.int, .string u.text, .slice u.p u.n u.c] 24 := by
    have h := Box.new (w.alloc (.cells #[.int .i64 t.kind, .int .i64 t.int, .string t.text, .slice t.p t.n t.c] 24)) #[.int .i64 u.kind, .int .i64 u.int, .string u.text, .slice u.p u.n u.c] 24
    rw [show (w.alloc (.cells #[.int .i64 t.kind, .int .i64 t.int, .string t.text, .slice t.p t.n t.c] 24)).heap.size = w.heap.size + 1 by simp] at h
    exact h.below hb1
  have hbw1 : Below w.heap.size w w1 := (((Below.refl w.heap.size w).alloc (Nat.le_refl _) _).alloc (by simp) _).trans (hb1.mono (by simp; omega))
  have HR1 := rank_any (cleanT t) w1 0 (flatP (cleanT t)) g1 c1 0 [] ho1 (by simp) clean_len hv1
  clear hb1 ho1 H1
  go_wp2_with fail
  refine HR1.mono ?_
  intro e w2 hP
  obtain ⟨x1, rfl, ho2, hb2⟩ := hP
  have hO2 : OwnBy _ w2 x1 (rankB (cleanT t)) := ho2
  have hU2 := hU1.below hb2
  have hbw2 : Below w.heap.size w w2 := hbw1.trans (hb2.mono hbw1.size)
  have q0 := hU2.cell 0
  have q1 := hU2.cell 1
  have q2 := hU2.cell 2
  have q3 := hU2.cell 3
  simp at q0 q1 q2 q3
  clear hb2 ho2 HR1 hU1 hbw1
  go_wp2_with fail
  refine (H2.out _ hbw2).mono ?_
  intro e w3 hP
  obtain ⟨g2, c2, rfl, ho3, hb3⟩ := hP
  have hO3 := hO2.below hb3
  have hbw3 : Below w.heap.size w w3 := hbw2.trans (hb3.mono hbw2.size)
  have HR2 := rank_any (cleanT u) w3 0 (flatP (cleanT u)) g2 c2 0 [] ho3 (by simp) clean_len hv2
  clear hb3 ho3 H2 q0 q1 q2 q3 hO2 hbw2 hU2
  go_wp2_with fail
  refine HR2.mono ?_
  intro e w4 hP
  obtain ⟨x2, rfl, ho4, hb4⟩ := hP
  have hO4 : OwnBy _ w4 x2 (rankB (cleanT u)) := ho4
  have hO1 := hO3.below hb4
  have hbw4 : Below w.heap.size w w4 := hbw3.trans (hb4.mono hbw3.size)
  obtain ⟨b1, cp1, e1, _⟩ := hO1.slice (by cases cleanT t <;> simp [rankB])
  obtain ⟨b2, cp2, e2, _⟩ := hO4.slice (by cases cleanT u <;> simp [rankB])
  subst e1 e2
  have k1 := conv_any (hO1.below ((Below.refl w4.heap.size w4).drew))
  have k2 := conv_any (hO4.below ((Below.refl w4.heap.size w4).drew))
  generalize rankB (cleanT t) = A at *
  generalize rankB (cleanT u) = B at *
  generalize strOf A = sa at *
  generalize strOf B = sb at *
  clear hO1 hO4 hO3 hb4 ho4 HR2 hbw3
  go_wp2_with fail
  cases h1 : Op.bytesLess sa.toList sb.toList with
  | true =>
    obtain rfl : -1 = r := by rw [← HRr.out, cmp3, if_pos h1]
    clear HRr
    go_region
    all_goals
      go_wp2
      go_ret
      exact ⟨rfl, hbw4.drew⟩
  | false =>
    cases h2 : sa.toList == sb.toList with
    | true =>
      obtain rfl : 0 = r := by rw [← HRr.out, cmp3, if_neg (by rw [h1]; simp), if_pos h2]
      clear HRr
      go_region
      all_goals
        go_wp2
        go_ret
        exact ⟨rfl, hbw4.drew⟩
    | false =>
      obtain rfl : 1 = r := by rw [← HRr.out, cmp3, if_neg (by rw [h1]; simp), if_neg (by rw [h2]; simp)]
      clear HRr
      go_region
      all_goals
        go_wp2
        go_ret
        exact ⟨rfl, hbw4.drew⟩
end Go.Proofs.Ythahomdgpcjhcaa
