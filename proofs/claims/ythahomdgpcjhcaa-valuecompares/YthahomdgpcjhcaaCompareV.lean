import Derived.Test.YthahomdgpcjhcaaOrder
import Derived.Test.YthahomdgpcjhcaaOrNone
namespace Go.Proofs.Ythahomdgpcjhcaa
open Go.RowKit
set_option maxRecDepth 8000

set_option maxHeartbeats 1000000 in
theorem compare_any (t u : VT) (w : World) (S R : Nat → Prop) (hin : VT.In w S t) (hiu : VT.In w R u) :
    Calls Try.prog 14 #[t.val, u.val] w fun e w' => e = .returned (.int .i64 (ordV (cleanT t) (cleanT u))) ∧ Below w.heap.size w w' := by
  have H1 : Hid (∀ W, Below w.heap.size w W → Calls Try.prog 44 #[t.val] W fun e w' => e = .returned (cleanT t).val ∧ Below W.heap.size W w') := fun W hW => orNone_any t W S (hin.below hW)
  have H2 : Hid (∀ W, Below w.heap.size w W → Calls Try.prog 44 #[u.val] W fun e w' => e = .returned (cleanT u).val ∧ Below W.heap.size W w') := fun W hW => orNone_any u W R (hiu.below hW)
  have H3 : Hid (∀ W, Below w.heap.size w W → Calls Try.prog 43 #[(cleanT t).val, (cleanT u).val] W fun e w' => e = .returned (.int .i64 (ordV (cleanT t) (cleanT u))) ∧ Below W.heap.size W w') := fun W hW => order_any (cleanT t) (cleanT u) W S R (cleanT_in (hin.below hW)) (cleanT_in (hiu.below hW))
  clear hin hiu
  generalize ordV (cleanT t) (cleanT u) = r at *
  generalize cleanT t = ct at *
  generalize cleanT u = cu at *
  unfold VT.val at H1 H2 H3 ⊢
  go_enter Try.func14, Try.ntmps14
  go_wp2_with fail
  have HW0 : Hid (Below w.heap.size w ((w.alloc (.cells #[.int .i64 t.kind, .int .i64 t.int, .string t.text, .slice t.p t.n t.c] 24)).alloc (.cells #[.int .i64 u.kind, .int .i64 u.int, .string u.text, .slice u.p u.n u.c] 24))) := ((Below.refl _ _).alloc (Nat.le_refl _) _).alloc (by simp) _
  have HB : Hid (∀ W, Below ((w.alloc (.cells #[.int .i64 t.kind, .int .i64 t.int, .string t.text, .slice t.p t.n t.c] 24)).alloc (.cells #[.int .i64 u.kind, .int .i64 u.int, .string u.text, .slice u.p u.n u.c] 24)).heap.size ((w.alloc (.cells #[.int .i64 t.kind, .int .i64 t.int, .string t.text, .slice t.p t.n t.c] 24)).alloc (.cells #[.int .i64 u.kind, .int .i64 u.int, .string u.text, .slice u.p u.n u.c] 24)) W → Box W (w.heap.size + 1) #[.int .i64 u.kind, .int .i64 u.int, .string u.text, .slice u.p u.n u.c] 24) := by
    intro W hW
    have h := Box.new (w.alloc (.cells #[.int .i64 t.kind, .int .i64 t.int, .string t.text, .slice t.p t.n t.c] 24)) #[.int .i64 u.kind, .int .i64 u.int, .string u.text, .slice u.p u.n u.c] 24
    rw [show (w.alloc (.cells #[.int .i64 t.kind, .int .i64 t.int, .string t.text, .slice t.p t.n t.c] 24)).heap.size = w.heap.size + 1 by simp] at h
    exact h.below hW
  go_region_with (first | (go_at_call 44; refine (H1.out _ HW0.out.drew).mono ?_; rintro e w1 ⟨rfl, hb1⟩; have y := HB.out w1 (by exact ((Below.refl _ _).drew).trans hb1); have hbw1 : Below w.heap.size w w1 := HW0.out.drew.trans (hb1.mono HW0.out.size); have x0 := y.cell 0; have x1 := y.cell 1; have x2 := y.cell 2; have x3 := y.cell 3; simp at x0 x1 x2 x3; clear y hb1) | (go_at_call 44; refine (H2.out _ hbw1).mono ?_; rintro e w2 ⟨rfl, hb2⟩; have hbw2 : Below w.heap.size w w2 := hbw1.trans (hb2.mono hbw1.size)) | (go_at_call 43; refine (H3.out _ hbw2).mono ?_; rintro e w3 ⟨rfl, hb3⟩; have hbw3 : Below w.heap.size w w3 := hbw2.trans (hb3.mono hbw2.size)))
  all_goals
    go_wp2
    go_ret
    exact ⟨rfl, hbw3⟩
end Go.Proofs.Ythahomdgpcjhcaa
