import Derived.Test.YtkodlhjcoeljiaaWithin
import Derived.Test.YtkodlhjcoeljiaaFewV
namespace Go.Proofs.Ytkodlhjcoeljiaa
open Go.RowKit
set_option maxRecDepth 8000

set_option maxHeartbeats 2000000 in
theorem value_any (t : VT) (base : Nat) (w : World) (R : RS) (S : Nat → Prop) (hR : Rm base w R) (hbase : base ≤ w.heap.size) (hin : VT.In w S t) (hS : ∀ b, S b → ¬ R.hot b) (hcnt : ∀ i, i < 10 → (R.L i).length + 1 + t.total ≤ 100000) :
    Calls Try.prog 9 #[.pointer (some ⟨R.rb, 0, none⟩), t.val] w fun e w' => WPost base w R t e w' := by
  obtain ⟨k, i, s, n, p, c, f, rfl⟩ := hin.mk_
  have ih := fun j => within_any (f j)
  simp only [VT.val, VT.kind_mk, VT.int_mk, VT.text_mk, VT.p_mk, VT.n_mk, VT.c_mk]
  by_cases hl : 0 < n ∨ k = 3
  · have HC : Hid (∀ W, Below w.heap.size w W → Calls Try.prog 36 #[.pointer (some ⟨R.rb, 0, none⟩), .slice p n c] W fun e w' => FPost base W R (.mk k i s n p c f) e w') :=
      fun W hW => values_of k i s n p c f ih base W R (fun b => S b ∧ b < w.heap.size) (hR.below hW) (Nat.le_trans hbase hW.size) ((hin.mono fun b hb hl => ⟨hb, hl⟩).below hW) (fun b hb => hS b hb.1) hcnt
    have HR : Hid (Rm base w R) := hR
    clear ih hin hS hcnt hR
    by_cases h1 : 0 < n
    · clear hl
      go_enter Try.func9, Try.ntmps9
      go_wp2_with (go_at_call 36; refine (HC.out _ ?_).mono ?_)
      · exact ((Below.refl _ _).alloc (Nat.le_refl _) _).alloc (by simp) _
      intro e w1 hP
      obtain ⟨u, R1, he, hu⟩ := hP
      obtain ⟨k', i', s', n', p', c', f', hue⟩ := hu.in_.mk_
      subst hue
      obtain ⟨a1, a2, a3, a4, _⟩ := hu.alike
      simp only [VT.kind_mk, VT.int_mk, VT.text_mk, VT.n_mk] at a1 a2 a3 a4
      subst a1 a2 a3 a4
      simp only [VT.row, VT.p_mk, VT.n_mk, VT.c_mk] at he
      subst he
      have hlo : ∀ b, w.heap.size ≤ b → ¬ R.hot b := fun b hb h => by have := HR.out.hotlt h; omega
      have hv1 : Box w1 w.heap.size #[.int .i64 k', .int .i64 i', .string s', .slice p n' c] 24 := ((Box.new w _ 24).below ((Below.refl _ _).alloc (Nat.le_refl _) _)).but hu.but (hlo _ (Nat.le_refl _))
      have hv2 : Box w1 (w.heap.size + 1) #[.int .i64 0, .int .i64 0, .string ⟨#[]⟩, .slice none 0 0] 24 := by
        have h := Box.new (w.alloc (.cells #[.int .i64 k', .int .i64 i', .string s', .slice p n' c] 24)) #[.int .i64 0, .int .i64 0, .string ⟨#[]⟩, .slice none 0 0] 24
        rw [show (w.alloc (.cells #[.int .i64 k', .int .i64 i', .string s', .slice p n' c] 24)).heap.size = w.heap.size + 1 by simp] at h
        exact h.but hu.but (hlo _ (by omega))
      have HU : Hid (Roomed base ((w.alloc (.cells #[.int .i64 k', .int .i64 i', .string s', .slice p n' c] 24)).alloc (.cells #[.int .i64 0, .int .i64 0, .string ⟨#[]⟩, .slice none 0 0] 24)) R _ _ w1 R1) := hu
      have x0 := hv1.cell 0
      have x1 := hv1.cell 1
      have x2 := hv1.cell 2
      have x3 := hv1.cell 3
      have g3 := hv1.frozen 3
      have z1 := hv1.lt
      have d0 := hv2.cell 0
      have d1 := hv2.cell 1
      have d2 := hv2.cell 2
      have d3 := hv2.cell 3
      have e0 := hv2.frozen 0
      have e1 := hv2.frozen 1
      have e2 := hv2.frozen 2
      have e3 := hv2.frozen 3
      have z2 := hv2.lt
      simp at x0 x1 x2 x3 d0 d1 d2 d3
      clear hu hv1 hv2 HC hlo
      go_wp2
      refine bodyPost_ret (v := .agg #[.int .i64 k', .int .i64 i', .string s', .slice p' n' c']) (by simp [results, Try.results9, go_sem, d0, d1, d2, d3]) rfl ⟨_, R1, rfl, roomed_shift HR.out (((Below.refl _ _).alloc (Nat.le_refl _) _).alloc (by simp) _) HU.out ?_⟩
      have hz : ((w.alloc (.cells #[.int .i64 k', .int .i64 i', .string s', .slice p n' c] 24)).alloc (.cells #[.int .i64 0, .int .i64 0, .string ⟨#[]⟩, .slice none 0 0] 24)).heap.size = w.heap.size + 2 := by simp
      rw [hz]
      exact (((((But.refl _ w1).setCell (fun _ => ⟨Nat.le_refl _, by simp⟩) _).setCell (fun _ => ⟨by simp, by simp⟩) _).setCell (fun _ => ⟨by simp, by simp⟩) _).setCell (fun _ => ⟨by simp, by simp⟩) _).setCell (fun _ => ⟨by simp, by simp⟩) _
    · obtain rfl : n = 0 := by omega
      obtain rfl : k = 3 := by omega
      clear hl h1
      go_enter Try.func9, Try.ntmps9
      go_wp2_with (go_at_call 36; refine (HC.out _ ?_).mono ?_)
      · exact ((Below.refl _ _).alloc (Nat.le_refl _) _).alloc (by simp) _
      intro e w1 hP
      obtain ⟨u, R1, he, hu⟩ := hP
      obtain ⟨k', i', s', n', p', c', f', hue⟩ := hu.in_.mk_
      subst hue
      obtain ⟨a1, a2, a3, a4, _⟩ := hu.alike
      simp only [VT.kind_mk, VT.int_mk, VT.text_mk, VT.n_mk] at a1 a2 a3 a4
      subst a1 a2 a3 a4
      simp only [VT.row, VT.p_mk, VT.n_mk, VT.c_mk] at he
      subst he
      have hlo : ∀ b, w.heap.size ≤ b → ¬ R.hot b := fun b hb h => by have := HR.out.hotlt h; omega
      have hv1 : Box w1 w.heap.size #[.int .i64 3, .int .i64 i', .string s', .slice p 0 c] 24 := ((Box.new w _ 24).below ((Below.refl _ _).alloc (Nat.le_refl _) _)).but hu.but (hlo _ (Nat.le_refl _))
      have hv2 : Box w1 (w.heap.size + 1) #[.int .i64 0, .int .i64 0, .string ⟨#[]⟩, .slice none 0 0] 24 := by
        have h := Box.new (w.alloc (.cells #[.int .i64 3, .int .i64 i', .string s', .slice p 0 c] 24)) #[.int .i64 0, .int .i64 0, .string ⟨#[]⟩, .slice none 0 0] 24
        rw [show (w.alloc (.cells #[.int .i64 3, .int .i64 i', .string s', .slice p 0 c] 24)).heap.size = w.heap.size + 1 by simp] at h
        exact h.but hu.but (hlo _ (by omega))
      have HU : Hid (Roomed base ((w.alloc (.cells #[.int .i64 3, .int .i64 i', .string s', .slice p 0 c] 24)).alloc (.cells #[.int .i64 0, .int .i64 0, .string ⟨#[]⟩, .slice none 0 0] 24)) R _ _ w1 R1) := hu
      have x0 := hv1.cell 0
      have x1 := hv1.cell 1
      have x2 := hv1.cell 2
      have x3 := hv1.cell 3
      have g3 := hv1.frozen 3
      have z1 := hv1.lt
      have d0 := hv2.cell 0
      have d1 := hv2.cell 1
      have d2 := hv2.cell 2
      have d3 := hv2.cell 3
      have e0 := hv2.frozen 0
      have e1 := hv2.frozen 1
      have e2 := hv2.frozen 2
      have e3 := hv2.frozen 3
      have z2 := hv2.lt
      simp at x0 x1 x2 x3 d0 d1 d2 d3
      clear hu hv1 hv2 HC hlo
      go_wp2
      refine bodyPost_ret (v := .agg #[.int .i64 3, .int .i64 i', .string s', .slice p' 0 c']) (by simp [results, Try.results9, go_sem, d0, d1, d2, d3]) rfl ⟨_, R1, rfl, roomed_shift HR.out (((Below.refl _ _).alloc (Nat.le_refl _) _).alloc (by simp) _) HU.out ?_⟩
      have hz : ((w.alloc (.cells #[.int .i64 3, .int .i64 i', .string s', .slice p 0 c] 24)).alloc (.cells #[.int .i64 0, .int .i64 0, .string ⟨#[]⟩, .slice none 0 0] 24)).heap.size = w.heap.size + 2 := by simp
      rw [hz]
      exact (((((But.refl _ w1).setCell (fun _ => ⟨Nat.le_refl _, by simp⟩) _).setCell (fun _ => ⟨by simp, by simp⟩) _).setCell (fun _ => ⟨by simp, by simp⟩) _).setCell (fun _ => ⟨by simp, by simp⟩) _).setCell (fun _ => ⟨by simp, by simp⟩) _
  · have hn0 : n = 0 := by omega
    subst hn0
    have hk : ¬ k = 3 := fun h => hl (.inr h)
    have HR : Hid (Rm base w R ∧ VT.Fit (.mk k i s 0 p c f)) := ⟨hR, hin.fit⟩
    clear ih hin hS hcnt hR hl
    go_enter Try.func9, Try.ntmps9
    go_wp2_with fail
    refine bodyPost_ret (v := .agg #[.int .i64 k, .int .i64 i, .string s, .slice none 0 0]) (by simp [results, Try.results9, go_sem]) rfl ⟨.mk k i s 0 none 0 f, R, rfl, bare_post HR.out.1 HR.out.2 ?_⟩
    exact ((Below.refl _ _).alloc (Nat.le_refl _) _).alloc (by simp) _
end Go.Proofs.Ytkodlhjcoeljiaa
