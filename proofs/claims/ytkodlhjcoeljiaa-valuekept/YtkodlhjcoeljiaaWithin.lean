import Derived.Test.YtkodlhjcoeljiaaFew
namespace Go.Proofs.Ytkodlhjcoeljiaa
open Go.RowKit
set_option maxRecDepth 8000

theorem Fit.of_row {k i : Int} {s : ByteArray} {n : Nat} {p : Option Addr} {c : Nat} {f : Nat → VT} (h : VT.Fit (.mk k i s n p c f)) : VT.Fit (.mk k i s 0 none 0 f) :=
  ⟨h.k0, h.k1, h.i0, h.i1, h.s1, Nat.le_refl 0, by show 0 ≤ 140737488355328; omega, Nat.zero_le _, fun _ => ⟨rfl, rfl⟩⟩

/-- a value without a list -/
theorem bare_post {base : Nat} {w w' : World} {R : RS} {k i : Int} {s : ByteArray} {p : Option Addr} {c : Nat} {f : Nat → VT} (hR : Rm base w R) (hf : VT.Fit (.mk k i s 0 p c f)) (hb : Below w.heap.size w w') :
    Roomed base w R (.mk k i s 0 p c f) (.mk k i s 0 none 0 f) w' R :=
  ⟨⟨rfl, rfl, rfl, rfl, fun j hj => absurd hj (by omega)⟩, ⟨Fit.of_row hf, fun h => absurd h (by omega), fun j hj => absurd hj (by omega)⟩, hR.below hb, Next.refl _ _, But.ofBelow hb, fun i _ => by omega⟩

theorem roomed_shift {base : Nat} {w W0 w1 w' : World} {R R1 : RS} {t u : VT} (hR : Rm base w R) (hb : Below w.heap.size w W0) (hu : Roomed base W0 R t u w1 R1) (hk : But (fun b => w.heap.size ≤ b ∧ b < W0.heap.size) w1 w') : Roomed base w R t u w' R1 := by
  have hs := hb.size
  refine ⟨hu.alike, ?_, ?_, ⟨hu.next.rb, fun b h => ?_, fun b h => ?_, hu.next.same⟩, ?_, hu.cnt⟩
  · exact (hu.in_.but hk fun b hb2 _ h => by have := hb2.1; omega).mono fun b hb2 _ => ⟨by omega, hb2.2⟩
  · refine hu.rm.keep hk.size fun b hf => hk.block b (hu.rm.footlt hf) fun h => ?_
    rcases hu.next.foot b hf with h1 | h1
    · have := hR.footlt h1; omega
    · omega
  · rcases hu.next.hot b h with h1 | h1
    · exact .inl h1
    · exact .inr (by omega)
  · rcases hu.next.foot b h with h1 | h1
    · exact .inl h1
    · exact .inr (by omega)
  · have h1 : But R.hot w w1 := (But.ofBelow hb).trans hu.but
    exact ⟨hk.os.trans h1.os, hk.tape.trans h1.tape, hk.output.trans h1.output, Nat.le_trans h1.size hk.size, fun b hb2 hx => (hk.block b (Nat.lt_of_lt_of_le hb2 h1.size) (fun h => by omega)).trans (h1.block b hb2 hx)⟩

set_option maxHeartbeats 2000000 in
theorem within_any (t : VT) : WithinC t := by
  induction t with
  | nil => intro base w R S _ _ hin; exact hin.elim
  | mk k i s n p c f ih =>
    intro base w R S hR hbase hin hS hcnt
    simp only [VT.val, VT.kind_mk, VT.int_mk, VT.text_mk, VT.p_mk, VT.n_mk, VT.c_mk]
    by_cases hl : 0 < n ∨ k = 3
    · have HC : Hid (∀ W, Below w.heap.size w W → Calls Try.prog 70 #[.pointer (some ⟨R.rb, 0, none⟩), .slice p n c] W fun e w' => FPost base W R (.mk k i s n p c f) e w') :=
        fun W hW => few_of k i s n p c f ih base W R (fun b => S b ∧ b < w.heap.size) (hR.below hW) (Nat.le_trans hbase hW.size) ((hin.mono fun b hb hl => ⟨hb, hl⟩).below hW) (fun b hb => hS b hb.1) hcnt
      have HR : Hid (Rm base w R) := hR
      clear ih hin hS hcnt hR
      by_cases h1 : 0 < n
      · clear hl
        go_enter Try.func60, Try.ntmps60
        go_wp2_with (go_at_call 70; refine (HC.out _ ?_).mono ?_)
        · exact ((Below.refl _ _).alloc (Nat.le_refl _) _).alloc (by simp) _
        intro e w1 hP
        obtain ⟨u, R1, he, hu⟩ := hP
        obtain ⟨k', i', s', n', p', c', f', hue⟩ := hu.in_.mk_
        subst hue
        obtain ⟨a1, a2, a3, a4, _⟩ := hu.alike
        simp only [VT.kind_mk, VT.int_mk, VT.text_mk, VT.n_mk] at a1 a2 a3 a4
        subst a1 a2 a3 a4
        simp only [VT.row, VT.p_mk, VT.n_mk, VT.c_mk] at he
        subst he
        have hlo : ∀ b, w.heap.size ≤ b → ¬ R.hot b := fun b hb h => by have := HR.out.hotlt h; omega
        have hv1 : Box w1 w.heap.size #[.int .i64 k', .int .i64 i', .string s', .slice p n' c] 24 := ((Box.new w _ 24).below ((Below.refl _ _).alloc (Nat.le_refl _) _)).but hu.but (hlo _ (Nat.le_refl _))
        have hv2 : Box w1 (w.heap.size + 1) #[.int .i64 0, .int .i64 0, .string ⟨#[]⟩, .slice none 0 0] 24 := by
          have h := Box.new (w.alloc (.cells #[.int .i64 k', .int .i64 i', .string s', .slice p n' c] 24)) #[.int .i64 0, .int .i64 0, .string ⟨#[]⟩, .slice none 0 0] 24
          rw [show (w.alloc (.cells #[.int .i64 k', .int .i64 i', .string s', .slice p n' c] 24)).heap.size = w.heap.size + 1 by simp] at h
          exact h.but hu.but (hlo _ (by omega))
        have HU : Hid (Roomed base ((w.alloc (.cells #[.int .i64 k', .int .i64 i', .string s', .slice p n' c] 24)).alloc (.cells #[.int .i64 0, .int .i64 0, .string ⟨#[]⟩, .slice none 0 0] 24)) R _ _ w1 R1) := hu
        have x0 := hv1.cell 0
        have x1 := hv1.cell 1
        have x2 := hv1.cell 2
        have x3 := hv1.cell 3
        have g3 := hv1.frozen 3
        have z1 := hv1.lt
        have d0 := hv2.cell 0
        have d1 := hv2.cell 1
        have d2 := hv2.cell 2
        have d3 := hv2.cell 3
        have e0 := hv2.frozen 0
        have e1 := hv2.frozen 1
        have e2 := hv2.frozen 2
        have e3 := hv2.frozen 3
        have z2 := hv2.lt
        simp at x0 x1 x2 x3 d0 d1 d2 d3
        clear hu hv1 hv2 HC hlo
        go_wp2
        refine bodyPost_ret (v := .agg #[.int .i64 k', .int .i64 i', .string s', .slice p' n' c']) (by simp [results, Try.results60, go_sem, d0, d1, d2, d3]) rfl ⟨_, R1, rfl, roomed_shift HR.out (((Below.refl _ _).alloc (Nat.le_refl _) _).alloc (by simp) _) HU.out ?_⟩
        have hz : ((w.alloc (.cells #[.int .i64 k', .int .i64 i', .string s', .slice p n' c] 24)).alloc (.cells #[.int .i64 0, .int .i64 0, .string ⟨#[]⟩, .slice none 0 0] 24)).heap.size = w.heap.size + 2 := by simp
        rw [hz]
        exact (((((But.refl _ w1).setCell (fun _ => ⟨Nat.le_refl _, by simp⟩) _).setCell (fun _ => ⟨by simp, by simp⟩) _).setCell (fun _ => ⟨by simp, by simp⟩) _).setCell (fun _ => ⟨by simp, by simp⟩) _).setCell (fun _ => ⟨by simp, by simp⟩) _
      · obtain rfl : n = 0 := by omega
        obtain rfl : k = 3 := by omega
        clear hl h1
        go_enter Try.func60, Try.ntmps60
        go_wp2_with (go_at_call 70; refine (HC.out _ ?_).mono ?_)
        · exact ((Below.refl _ _).alloc (Nat.le_refl _) _).alloc (by simp) _
        intro e w1 hP
        obtain ⟨u, R1, he, hu⟩ := hP
        obtain ⟨k', i', s', n', p', c', f', hue⟩ := hu.in_.mk_
        subst hue
        obtain ⟨a1, a2, a3, a4, _⟩ := hu.alike
        simp only [VT.kind_mk, VT.int_mk, VT.text_mk, VT.n_mk] at a1 a2 a3 a4
        subst a1 a2 a3 a4
        simp only [VT.row, VT.p_mk, VT.n_mk, VT.c_mk] at he
        subst he
        have hlo : ∀ b, w.heap.size ≤ b → ¬ R.hot b := fun b hb h => by have := HR.out.hotlt h; omega
        have hv1 : Box w1 w.heap.size #[.int .i64 3, .int .i64 i', .string s', .slice p 0 c] 24 := ((Box.new w _ 24).below ((Below.refl _ _).alloc (Nat.le_refl _) _)).but hu.but (hlo _ (Nat.le_refl _))
        have hv2 : Box w1 (w.heap.size + 1) #[.int .i64 0, .int .i64 0, .string ⟨#[]⟩, .slice none 0 0] 24 := by
          have h := Box.new (w.alloc (.cells #[.int .i64 3, .int .i64 i', .string s', .slice p 0 c] 24)) #[.int .i64 0, .int .i64 0, .string ⟨#[]⟩, .slice none 0 0] 24
          rw [show (w.alloc (.cells #[.int .i64 3, .int .i64 i', .string s', .slice p 0 c] 24)).heap.size = w.heap.size + 1 by simp] at h
          exact h.but hu.but (hlo _ (by omega))
        have HU : Hid (Roomed base ((w.alloc (.cells #[.int .i64 3, .int .i64 i', .string s', .slice p 0 c] 24)).alloc (.cells #[.int .i64 0, .int .i64 0, .string ⟨#[]⟩, .slice none 0 0] 24)) R _ _ w1 R1) := hu
        have x0 := hv1.cell 0
        have x1 := hv1.cell 1
        have x2 := hv1.cell 2
        have x3 := hv1.cell 3
        have g3 := hv1.frozen 3
        have z1 := hv1.lt
        have d0 := hv2.cell 0
        have d1 := hv2.cell 1
        have d2 := hv2.cell 2
        have d3 := hv2.cell 3
        have e0 := hv2.frozen 0
        have e1 := hv2.frozen 1
        have e2 := hv2.frozen 2
        have e3 := hv2.frozen 3
        have z2 := hv2.lt
        simp at x0 x1 x2 x3 d0 d1 d2 d3
        clear hu hv1 hv2 HC hlo
        go_wp2
        refine bodyPost_ret (v := .agg #[.int .i64 3, .int .i64 i', .string s', .slice p' 0 c']) (by simp [results, Try.results60, go_sem, d0, d1, d2, d3]) rfl ⟨_, R1, rfl, roomed_shift HR.out (((Below.refl _ _).alloc (Nat.le_refl _) _).alloc (by simp) _) HU.out ?_⟩
        have hz : ((w.alloc (.cells #[.int .i64 3, .int .i64 i', .string s', .slice p 0 c] 24)).alloc (.cells #[.int .i64 0, .int .i64 0, .string ⟨#[]⟩, .slice none 0 0] 24)).heap.size = w.heap.size + 2 := by simp
        rw [hz]
        exact (((((But.refl _ w1).setCell (fun _ => ⟨Nat.le_refl _, by simp⟩) _).setCell (fun _ => ⟨by simp, by simp⟩) _).setCell (fun _ => ⟨by simp, by simp⟩) _).setCell (fun _ => ⟨by simp, by simp⟩) _).setCell (fun _ => ⟨by simp, by simp⟩) _
    · have hn0 : n = 0 := by omega
      subst hn0
      have hk : ¬ k = 3 := fun h => hl (.inr h)
      have HR : Hid (Rm base w R ∧ VT.Fit (.mk k i s 0 p c f)) := ⟨hR, hin.fit⟩
      clear ih hin hS hcnt hR hl
      go_enter Try.func60, Try.ntmps60
      go_wp2_with fail
      refine bodyPost_ret (v := .agg #[.int .i64 k, .int .i64 i, .string s, .slice none 0 0]) (by simp [results, Try.results60, go_sem]) rfl ⟨.mk k i s 0 none 0 f, R, rfl, bare_post HR.out.1 HR.out.2 ?_⟩
      exact ((Below.refl _ _).alloc (Nat.le_refl _) _).alloc (by simp) _
end Go.Proofs.Ytkodlhjcoeljiaa
