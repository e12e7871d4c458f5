import Derived.Test.YthahomdgpcjhcaaOrdSpec
import Derived.Test.YthahomdgpcjhcaaCheckV
namespace Go.Proofs.Ythahomdgpcjhcaa
open Go.RowKit
set_option maxRecDepth 8000

set_option maxHeartbeats 1000000 in
theorem orNone_any (t : VT) (w : World) (S : Nat → Prop) (hin : VT.In w S t) :
    Calls Try.prog 44 #[t.val] w fun e w' => e = .returned (cleanT t).val ∧ Below w.heap.size w w' := by
  have HC : Hid (∀ W, Below w.heap.size w W → Calls Try.prog 10 #[t.val] W fun e w' => e = .returned (.int .i64 (chk t 0 0).1) ∧ Below W.heap.size W w') :=
    fun W hW => check_any t W (fun b => b < W.heap.size) ((hin.below hW).mono fun b _ hl => hl) (fun b hb => hb)
  obtain ⟨k, i, s, n, p, c, f, ht⟩ := hin.mk_
  clear hin
  unfold cleanT
  by_cases h : (chk t 0 0).1 = 0
  · rw [if_pos h]
    rw [h] at HC
    simp only [VT.val, ht, VT.kind_mk, VT.int_mk, VT.text_mk, VT.p_mk, VT.n_mk, VT.c_mk] at HC ⊢
    go_enter Try.func44, Try.ntmps44
    go_wp2_with fail
    refine (HC.out _ ?_).mono ?_
    · exact ((Below.refl _ _).alloc (Nat.le_refl _) _).alloc (by simp) _
    rintro e w1 ⟨rfl, hb1⟩
    have hv1 : Box w1 w.heap.size #[.int .i64 k, .int .i64 i, .string s, .slice p n c] 24 := ((Box.new w _ 24).below ((Below.refl _ _).alloc (Nat.le_refl _) _)).below hb1
    have hv2 : Box w1 (w.heap.size + 1) #[.int .i64 0, .int .i64 0, .string ⟨#[]⟩, .slice none 0 0] 24 := by
      have h := Box.new (w.alloc (.cells #[.int .i64 k, .int .i64 i, .string s, .slice p n c] 24)) #[.int .i64 0, .int .i64 0, .string ⟨#[]⟩, .slice none 0 0] 24
      rw [show (w.alloc (.cells #[.int .i64 k, .int .i64 i, .string s, .slice p n c] 24)).heap.size = w.heap.size + 1 by simp] at h
      exact h.below hb1
    have hbw : Below w.heap.size w w1 := (((Below.refl w.heap.size w).alloc (Nat.le_refl _) _).alloc (by simp) _).trans (hb1.mono (by simp; omega))
    have x0 := hv1.cell 0
    have x1 := hv1.cell 1
    have x2 := hv1.cell 2
    have x3 := hv1.cell 3
    have d0 := hv2.cell 0
    have d1 := hv2.cell 1
    have d2 := hv2.cell 2
    have d3 := hv2.cell 3
    have e0 := hv2.frozen 0
    have e1 := hv2.frozen 1
    have e2 := hv2.frozen 2
    have e3 := hv2.frozen 3
    have z2 := hv2.lt
    simp at x0 x1 x2 x3 d0 d1 d2 d3
    clear hb1 hv1 hv2 HC
    go_wp2
    refine bodyPost_ret (v := .agg #[.int .i64 k, .int .i64 i, .string s, .slice p n c]) (by simp [results, Try.results44, go_sem, d0, d1, d2, d3]) rfl ⟨rfl, ?_⟩
    exact (((hbw.setCell (Nat.le_succ _) _).setCell (Nat.le_succ _) _).setCell (Nat.le_succ _) _).setCell (Nat.le_succ _) _
  · rw [if_neg h]
    have h' : ¬ (((chk t 0 0).1 : Int) = 0) := by omega
    generalize (chk t 0 0).1 = r at *
    simp only [VT.val, zeroT, ht, VT.kind_mk, VT.int_mk, VT.text_mk, VT.p_mk, VT.n_mk, VT.c_mk] at HC ⊢
    go_enter Try.func44, Try.ntmps44
    go_wp2_with fail
    refine (HC.out _ ?_).mono ?_
    · exact ((Below.refl _ _).alloc (Nat.le_refl _) _).alloc (by simp) _
    rintro e w1 ⟨rfl, hb1⟩
    have hv1 : Box w1 w.heap.size #[.int .i64 k, .int .i64 i, .string s, .slice p n c] 24 := ((Box.new w _ 24).below ((Below.refl _ _).alloc (Nat.le_refl _) _)).below hb1
    have hv2 : Box w1 (w.heap.size + 1) #[.int .i64 0, .int .i64 0, .string ⟨#[]⟩, .slice none 0 0] 24 := by
      have h := Box.new (w.alloc (.cells #[.int .i64 k, .int .i64 i, .string s, .slice p n c] 24)) #[.int .i64 0, .int .i64 0, .string ⟨#[]⟩, .slice none 0 0] 24
      rw [show (w.alloc (.cells #[.int .i64 k, .int .i64 i, .string s, .slice p n c] 24)).heap.size = w.heap.size + 1 by simp] at h
      exact h.below hb1
    have hbw : Below w.heap.size w w1 := (((Below.refl w.heap.size w).alloc (Nat.le_refl _) _).alloc (by simp) _).trans (hb1.mono (by simp; omega))
    have x0 := hv1.cell 0
    have x1 := hv1.cell 1
    have x2 := hv1.cell 2
    have x3 := hv1.cell 3
    have d0 := hv2.cell 0
    have d1 := hv2.cell 1
    have d2 := hv2.cell 2
    have d3 := hv2.cell 3
    have e0 := hv2.frozen 0
    have e1 := hv2.frozen 1
    have e2 := hv2.frozen 2
    have e3 := hv2.frozen 3
    have z2 := hv2.lt
    simp at x0 x1 x2 x3 d0 d1 d2 d3
    clear hb1 hv1 hv2 HC
    go_wp2
    refine bodyPost_ret (v := .agg #[.int .i64 0, .int .i64 0, .string ⟨#[]⟩, .slice none 0 0]) (by simp [results, Try.results44, go_sem, d0, d1, d2, d3]) rfl ⟨rfl, ?_⟩
    exact (((hbw.setCell (Nat.le_succ _) _).setCell (Nat.le_succ _) _).setCell (Nat.le_succ _) _).setCell (Nat.le_succ _) _
end Go.Proofs.Ythahomdgpcjhcaa
