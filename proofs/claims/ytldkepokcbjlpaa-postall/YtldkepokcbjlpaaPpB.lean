import Derived.Test.YtldkepokcbjlpaaPpA
namespace Go.Proofs.Ytldkepokcbjlpaa
open Go.RowKit
set_option maxRecDepth 8000
theorem PsI.kept {w w' : World} {b : Nat} {P : Ps} (h : PsI w b P) (hb : ∀ k, (k = b ∨ P.lv.ownBlock = some k) → k < w.heap.size → w'.heap[k]? = w.heap[k]?) : PsI w' b P :=
  ⟨h.box.kept (hb b (.inl rfl) h.box.lt), ownsRow_keep h.own (fun k hk hl => hb k (.inr hk) hl), h.ne, h.st, h.t0, h.t1, h.f0, h.f1, h.n1⟩
theorem PsI.below {w w' : World} {b : Nat} {P : Ps} (h : PsI w b P) (hb : Below w.heap.size w w') : PsI w' b P := h.kept fun k _ hl => hb.block k hl
set_option maxHeartbeats 2000000 in
theorem under_any (w : World) (b : Nat) (P : Ps) (hI : PsI w b P) : Calls Try.prog 30 #[.pointer (some ⟨b, 0, none⟩)] w fun e w' => e = .returned (.int .i64 P.under) ∧ Below w.heap.size w w' := by
  have HI := hid hI
  have hn1 := hI.n1
  have hf0 := hI.f0
  have hf1 := hI.f1
  have HN := hid (next_any w b P hI)
  have HS : Hid (∀ V, Below w.heap.size w V → Calls Try.prog 28 #[.pointer (some ⟨b, 0, none⟩), .int .i64 (P.next - 1)] V fun e w' => e = .returned (.int .u8 (P.stat (P.next - 1))) ∧ Below V.heap.size V w') := fun V hV => stat_any (P.next - 1) V b P (hI.below hV)
  have hwr : IntKind.i64.wrap (P.next - 1) = P.next - 1 := by rw [IntKind.wrap_i64]; unfold Ps.next; omega
  clear hI
  by_cases h : P.stat (P.next - 1) = 1
  · have HE : Hid (P.under = P.next - 1) := if_pos h
    have h' : (P.stat (P.next - 1) != 1) = false := by simp [h]
    have HH := hid h
    clear h
    go_enter Try.func30, Try.ntmps30
    go_wp2_with (first | (go_at_call 29; refine HN.out.mono ?_; rintro e w1 ⟨rfl, hb1⟩) | (go_at_call 28; refine (HS.out _ hb1).mono ?_; rintro e w2 ⟨rfl, hb2⟩))
    refine bodyPost_ret (v := .int .i64 (P.next - 1)) (by simp [results, Try.results30, go_sem]) rfl ?_
    exact ⟨by rw [HE.out], hb1.trans (hb2.mono hb1.size)⟩
  · have HE : Hid (P.under = 0) := if_neg h
    have h' : (P.stat (P.next - 1) != 1) = true := by simp [h]
    clear h
    go_enter Try.func30, Try.ntmps30
    go_wp2_with (first | (go_at_call 29; refine HN.out.mono ?_; rintro e w1 ⟨rfl, hb1⟩) | (go_at_call 28; refine (HS.out _ hb1).mono ?_; rintro e w2 ⟨rfl, hb2⟩))
    refine bodyPost_ret (v := .int .i64 (0)) (by simp [results, Try.results30, go_sem]) rfl ?_
    exact ⟨by rw [HE.out], hb1.trans (hb2.mono hb1.size)⟩
def Ps.refE (P : Ps) (id task : Int) : Int := if task < 0 ∨ P.tasks ≤ task then 144 else if P.under = 0 ∨ id ≠ P.under then 143 else if P.pl task.toNat ≠ 0 then 145 else 0
set_option maxHeartbeats 4000000 in
theorem refusal_any (id task : Int) (w : World) (b : Nat) (P : Ps) (hI : PsI w b P) : Calls Try.prog 31 #[.pointer (some ⟨b, 0, none⟩), .int .i64 id, .int .i64 task] w fun e w' => e = .returned (.int .i64 (P.refE id task)) ∧ Below w.heap.size w w' := by
  have HI := hid hI
  have HU := hid (under_any w b P hI)
  have ht1 := hI.t1
  clear hI
  by_cases h0 : task < 0
  · have HE : Hid (P.refE id task = 144) := if_pos (.inl h0)
    go_enter Try.func31, Try.ntmps31
    go_wp2_with (go_at_call 30; refine HU.out.mono ?_; rintro e w1 ⟨rfl, hb1⟩)
    refine bodyPost_ret (v := .int .i64 (144)) (by simp [results, Try.results31, go_sem]) rfl ?_
    exact ⟨by rw [HE.out], hb1⟩
  by_cases h1 : P.tasks ≤ task
  · have HE : Hid (P.refE id task = 144) := if_pos (.inr h1)
    go_enter Try.func31, Try.ntmps31
    go_wp2_with (go_at_call 30; refine HU.out.mono ?_; rintro e w1 ⟨rfl, hb1⟩; have hX := HI.out.box.below hb1; have c0 := hX.cell 0; have bl := hX.lt; simp [Ps.arr] at c0; clear hX)
    refine bodyPost_ret (v := .int .i64 (144)) (by simp [results, Try.results31, go_sem]) rfl ?_
    exact ⟨by rw [HE.out], hb1⟩
  have hnt : ¬ (task < 0 ∨ P.tasks ≤ task) := by omega
  by_cases h2 : P.under = 0
  · have HE : Hid (P.refE id task = 143) := by unfold Hid Ps.refE; rw [if_neg hnt, if_pos (.inl h2)]
    have HH := hid h2
    clear h2 hnt
    go_enter Try.func31, Try.ntmps31
    go_wp2_with (go_at_call 30; refine HU.out.mono ?_; rintro e w1 ⟨rfl, hb1⟩; rw [HH.out]; have hX := HI.out.box.below hb1; have c0 := hX.cell 0; have bl := hX.lt; simp [Ps.arr] at c0; clear hX)
    refine bodyPost_ret (v := .int .i64 (143)) (by simp [results, Try.results31, go_sem]) rfl ?_
    exact ⟨by rw [HE.out], hb1⟩
  have h2' : (P.under == 0) = false := by simp [h2]
  by_cases h3 : id = P.under
  rotate_left
  · have HE : Hid (P.refE id task = 143) := by unfold Hid Ps.refE; rw [if_neg hnt, if_pos (.inr h3)]
    have h3' : (id != P.under) = true := by simp [h3]
    clear h2 h3 hnt
    go_enter Try.func31, Try.ntmps31
    go_wp2_with (go_at_call 30; refine HU.out.mono ?_; rintro e w1 ⟨rfl, hb1⟩; have hX := HI.out.box.below hb1; have c0 := hX.cell 0; have bl := hX.lt; simp [Ps.arr] at c0; clear hX)
    refine bodyPost_ret (v := .int .i64 (143)) (by simp [results, Try.results31, go_sem]) rfl ?_
    exact ⟨by rw [HE.out], hb1⟩
  have h3' : (id != P.under) = false := by simp [h3]
  have hnu : ¬ (P.under = 0 ∨ id ≠ P.under) := by rintro (h | h); exact h2 h; exact h h3
  obtain ⟨i, rfl⟩ : ∃ i : Nat, task = (i : Int) := ⟨task.toNat, by omega⟩
  have hi : i < 12 := by omega
  have hi12 : (i : Int) < 12 := by omega
  have hti : ¬ P.tasks ≤ (i : Int) := h1
  by_cases h4 : P.pl i = 0
  · have HE : Hid (P.refE id (i : Int) = 0) := by unfold Hid Ps.refE; rw [if_neg hnt, if_neg hnu, if_neg (by simpa using h4)]
    have HH := hid h4
    clear h2 h3 hnt hnu h4
    go_enter Try.func31, Try.ntmps31
    go_wp2_with (go_at_call 30; refine HU.out.mono ?_; rintro e w1 ⟨rfl, hb1⟩; have hX := HI.out.below hb1; have c0 := hX.box.cell 0; have cp := hX.cp hi; have bl := hX.box.lt; simp [Ps.arr] at c0; rw [HH.out] at cp; clear hX)
    refine bodyPost_ret (v := .int .i64 (0)) (by simp [results, Try.results31, go_sem]) rfl ?_
    exact ⟨by rw [HE.out], hb1⟩
  · have HE : Hid (P.refE id (i : Int) = 145) := by unfold Hid Ps.refE; rw [if_neg hnt, if_neg hnu, if_pos (by simpa using h4)]
    have h4' : (P.pl i != 0) = true := by simp [h4]
    clear h2 h3 hnt hnu h4
    go_enter Try.func31, Try.ntmps31
    go_wp2_with (go_at_call 30; refine HU.out.mono ?_; rintro e w1 ⟨rfl, hb1⟩; have hX := HI.out.below hb1; have c0 := hX.box.cell 0; have cp := hX.cp hi; have bl := hX.box.lt; simp [Ps.arr] at c0; clear hX)
    refine bodyPost_ret (v := .int .i64 (145)) (by simp [results, Try.results31, go_sem]) rfl ?_
    exact ⟨by rw [HE.out], hb1⟩
set_option maxHeartbeats 2000000 in
theorem Status_any (id : Int) (w : World) (b : Nat) (P : Ps) (hI : PsI w b P) : Calls Try.prog 10 #[.pointer (some ⟨b, 0, none⟩), .int .i64 id] w fun e w' => e = .returned (.int .i64 (P.stat id)) ∧ Below w.heap.size w w' := by
  have HS := hid (stat_any id w b P hI)
  have hr : 0 ≤ P.stat id ∧ P.stat id ≤ 4 := by
    unfold Ps.stat
    split
    · omega
    · rename_i h; exact hI.st _ (by unfold Ps.next at h; omega)
  have hwr : IntKind.i64.wrap (P.stat id) = P.stat id := by rw [IntKind.wrap_i64]; omega
  clear hI
  go_enter Try.func10, Try.ntmps10
  go_wp2_with (go_at_call 28; refine HS.out.mono ?_; rintro e w1 ⟨rfl, hb1⟩)
  refine bodyPost_ret (v := .int .i64 (P.stat id)) (by simp [results, Try.results10, go_sem]) rfl ?_
  exact ⟨rfl, hb1⟩
end Go.Proofs.Ytldkepokcbjlpaa
