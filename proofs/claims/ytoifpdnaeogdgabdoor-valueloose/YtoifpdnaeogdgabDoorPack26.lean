import Derived.Test.YtoifpdnaeogdgabDoorDecP
import Derived.Defers
import Derived.Recover
import Derived.Test.YtoifpdnaeogdgabDoorParJ
namespace Go.Proofs.YtoifpdnaeogdgabDoor
open Go.RowKit
set_option maxRecDepth 8000
end Go.Proofs.YtoifpdnaeogdgabDoor

namespace Go.Proofs.YtoifpdnaeogdgabDoor
open Go.RowKit
set_option maxRecDepth 8000
theorem fault_yes (W : World) (v : Value) : (Instr.typeAssert (.iface 46 v) 20 46 true).run Tryd.prog W = .ok (.tuple #[v, .bool true]) W := by kernel_rfl
set_option maxHeartbeats 2000000 in
theorem asFault_any (a e : Int) (w : World) : Calls Tryd.prog 19 #[faultV a e] w fun x w' => x = .returned (.agg #[.int .i64 a, .int .i64 e]) ∧ Below w.heap.size w w' := by
  have HT := fault_yes
  unfold faultV
  go_enter Tryd.func19, Tryd.ntmps19
  go_wp2
  refine bodyPost_ret (v := .agg #[.int .i64 a, .int .i64 e]) (by simp [results, Tryd.results19, go_sem]) rfl ⟨rfl, ((Below.refl _ _).alloc (Nat.le_refl _) _).alloc (by simp) _⟩
theorem fault_err (W : World) (a e : Int) : (Instr.field 46 (.agg #[.int .i64 a, .int .i64 e]) 1).run Tryd.prog W = .ok (.int .i64 e) W := by kernel_rfl
/-- what value.Decode comes to -/
def DecPost (w : World) (r : DR) (x : Ending) (w' : World) : Prop :=
  (∀ t a' q', r = .ok (t, a', q') → ∃ u, x = .returned (.tuple #[u.val, .int .i64 (a' : Int), .int .i64 0]) ∧ VT.Alike t u ∧ VT.In w' (fun b => w.heap.size ≤ b) u ∧ Below w.heap.size w w') ∧ (∀ e : Nat, r = .error e → x = .returned (.tuple #[.agg #[.int .i64 0, .int .i64 0, .string ⟨#[]⟩, .slice none 0 0], .int .i64 0, .int .i64 (e : Int)]) ∧ Below w.heap.size w w')
theorem dec_start (w : World) (A B C D : Array Value) (ta tb tc td : TypeId) :
    Box ((((w.alloc (.cells A ta)).alloc (.cells B tb)).alloc (.cells C tc)).alloc (.cells D td)) w.heap.size A ta ∧
    Box ((((w.alloc (.cells A ta)).alloc (.cells B tb)).alloc (.cells C tc)).alloc (.cells D td)) (w.heap.size + 1) B tb ∧
    Box ((((w.alloc (.cells A ta)).alloc (.cells B tb)).alloc (.cells C tc)).alloc (.cells D td)) (w.heap.size + 1 + 1) C tc ∧
    Box ((((w.alloc (.cells A ta)).alloc (.cells B tb)).alloc (.cells C tc)).alloc (.cells D td)) (w.heap.size + 1 + 1 + 1) D td ∧
    Below w.heap.size w ((((w.alloc (.cells A ta)).alloc (.cells B tb)).alloc (.cells C tc)).alloc (.cells D td)) ∧ ((((w.alloc (.cells A ta)).alloc (.cells B tb)).alloc (.cells C tc)).alloc (.cells D td)).heap.size = w.heap.size + 4 := by
  have z1 : (w.alloc (.cells A ta)).heap.size = w.heap.size + 1 := by simp
  have z2 : ((w.alloc (.cells A ta)).alloc (.cells B tb)).heap.size = w.heap.size + 1 + 1 := by simp
  have z3 : (((w.alloc (.cells A ta)).alloc (.cells B tb)).alloc (.cells C tc)).heap.size = w.heap.size + 1 + 1 + 1 := by simp
  have b1 := Box.new w A ta
  have b2 := Box.new (w.alloc (.cells A ta)) B tb
  have b3 := Box.new ((w.alloc (.cells A ta)).alloc (.cells B tb)) C tc
  have b4 := Box.new (((w.alloc (.cells A ta)).alloc (.cells B tb)).alloc (.cells C tc)) D td
  rw [z1] at b2
  rw [z2] at b3
  rw [z3] at b4
  have l1 := fun (W : World) o => (Below.refl W.heap.size W).alloc (Nat.le_refl _) o
  refine ⟨((b1.below (l1 _ _)).below (l1 _ _)).below (l1 _ _), (b2.below (l1 _ _)).below (l1 _ _), b3.below (l1 _ _), b4, ?_, by simp⟩
  exact ((((Below.refl _ _).alloc (Nat.le_refl _) _).alloc (by omega) _).alloc (by omega) _).alloc (by omega) _
end Go.Proofs.YtoifpdnaeogdgabDoor

namespace Go.Proofs.YtoifpdnaeogdgabDoor
open Go.RowKit
set_option maxRecDepth 8000
theorem idle_lead (p0 p1 p2 : Addr) (w : World) :
    CallsD Tryd.prog 18 #[.pointer (some p0), .pointer (some p1), .pointer (some p2)] .returning w fun x u' w' => x = .returned (.tuple #[]) ∧ u' = .returning ∧ w' = w := by
  refine callsD_of_wpS Tryd.func18 rfl fun c₀ cs hu => ?_
  apply wpS_seq
  apply wpS_region
  simp [wpOpsS, go_sem, recoverD, hu, Tryd.ntmps18, Exit.thenS]
  simp only [Array.replicate, List.replicate]
  refine wpS_of_wp ?_
  go_wp2_with fail
  cases c₀
  simp_all [bodyPostS, results, Tryd.results18]
set_option maxHeartbeats 2000000 in
theorem catch_lead (b0 b1 b2 : Nat) (a e : Int) (older : List PanicEntry) (w : World) (x0 x1 x2 x3 y z : Value) (h0 : Box w b0 #[x0, x1, x2, x3] 24) (h1 : Box w b1 #[y] 3) (h2 : Box w b2 #[z] 32) (h01 : b0 ≠ b1) (h02 : b0 ≠ b2) (h12 : b1 ≠ b2) :
    CallsD Tryd.prog 18 #[.pointer (some ⟨b0, 0, none⟩), .pointer (some ⟨b1, 0, none⟩), .pointer (some ⟨b2, 0, none⟩)] (.panicking ({ v := faultV a e, recovered := false } :: older)) w fun x u' w' =>
      x = .returned (.tuple #[]) ∧ u' = .panicking ({ v := faultV a e, recovered := true } :: older) ∧ Box w' b0 #[.int .i64 0, .int .i64 0, .string ⟨#[]⟩, .slice none 0 0] 24 ∧ Box w' b1 #[.int .i64 a] 3 ∧ Box w' b2 #[.int .i64 e] 32 ∧ But (fun y => y = b0 ∨ y = b1 ∨ y = b2) w w' := by
  have HA := hid (fun W => asFault_any a e W)
  unfold faultV at *
  refine callsD_of_wpS Tryd.func18 rfl fun c₀ cs hu => ?_
  apply wpS_seq
  apply wpS_region
  simp [wpOpsS, go_sem, recoverD, hu, Tryd.ntmps18, Exit.thenS]
  simp only [Array.replicate, List.replicate]
  refine wpS_of_wp ?_
  go_wp2_with fail
  refine (HA.out _).mono ?_
  rintro x5 w2 ⟨rfl, hb2⟩
  have ha3 : Below w2.heap.size w2 (w2.alloc (.cells #[.int .i64 a, .int .i64 e] 46)) := (Below.refl _ _).alloc (Nat.le_refl _) _
  have g0' := h0.below hb2
  have g1' := h1.below hb2
  have g2' := h2.below hb2
  have l0 := g0'.lt
  have l1 := g1'.lt
  have l2 := g2'.lt
  have g0 := g0'.below ha3
  have g1 := g1'.below ha3
  have g2 := g2'.below ha3
  have c0 := g0'.cell 0
  have c1 := g0'.cell 1
  have c2 := g0'.cell 2
  have c3 := g0'.cell 3
  have d0 := g1'.cell 0
  have e0 := g2'.cell 0
  have f0 := g0'.frozen 0
  have f1 := g0'.frozen 1
  have f2 := g0'.frozen 2
  have f3 := g0'.frozen 3
  have fd := g1'.frozen 0
  have fe := g2'.frozen 0
  simp at c0 c1 c2 c3 d0 e0
  have h10 := h01.symm
  have h20 := h02.symm
  have h21 := h12.symm
  have n0 : b0 ≠ w2.heap.size := by omega
  have n1 : b1 ≠ w2.heap.size := by omega
  have n2 : b2 ≠ w2.heap.size := by omega
  have n0' : w2.heap.size ≠ b0 := by omega
  have n1' : w2.heap.size ≠ b1 := by omega
  have n2' : w2.heap.size ≠ b2 := by omega
  have HX := hid (And.intro g0' (And.intro g1' (And.intro g2' (But.ofBelow (X := fun y => y = b0 ∨ y = b1 ∨ y = b2) hb2))))
  clear g0 g1 g2 g0' g1' g2' ha3 hb2 h0 h1 h2
  go_wp2_with fail
  go_region
  all_goals
    go_wp2
    obtain ⟨g0, g1, g2, hk⟩ := HX.out
    have hk4 : But (fun y => y = b0) w2 ((((w2.setCell ⟨b0, 0, none⟩ (.int .i64 0)).setCell ⟨b0, 1, none⟩ (.int .i64 0)).setCell ⟨b0, 2, none⟩ (.string ⟨#[]⟩)).setCell ⟨b0, 3, none⟩ (.slice none 0 0)) := ((((But.one _ b0).setAt 0 _).setAt 1 _).setAt 2 _).setAt 3 _
    have hlast : ∀ W : World, Below W.heap.size W (W.alloc (.cells #[.int .i64 a, .int .i64 e] 46)).drew := fun W => ((Below.refl _ _).alloc (Nat.le_refl _) _).drew
    refine ⟨rfl, _, rfl, .tuple #[], by simp [results, Tryd.results18], rfl, rfl, ?_, ?_, ?_, ?_⟩
    · exact (((setV_box g0 _ _ _ _).kept (Below.heap_setCell _ _ _ _ (show b0 ≠ b1 by omega))).kept (Below.heap_setCell _ _ _ _ (show b0 ≠ b2 by omega))).below (hlast _)
    · exact (((g1.but hk4 h10).set 0 (.int .i64 a)).kept (Below.heap_setCell _ _ _ _ (show b1 ≠ b2 by omega))).below (hlast _)
    · exact (((g2.but hk4 h20).kept (Below.heap_setCell _ _ _ _ (show b2 ≠ b1 by omega))).set 0 (.int .i64 e)).below (hlast _)
    · exact (((((((hk.setCell (p := ⟨b0, 0, none⟩) (fun _ => Or.inl rfl) _).setCell (p := ⟨b0, 1, none⟩) (fun _ => Or.inl rfl) _).setCell (p := ⟨b0, 2, none⟩) (fun _ => Or.inl rfl) _).setCell (p := ⟨b0, 3, none⟩) (fun _ => Or.inl rfl) _).setCell (p := ⟨b1, 0, none⟩) (fun _ => Or.inr (Or.inl rfl)) _).setCell (p := ⟨b2, 0, none⟩) (fun _ => Or.inr (Or.inr rfl)) _).trans (But.ofBelow (hlast _)))
/-- what value.Lead comes to -/
def LeadPost (w : World) (r : TR) (x : Ending) (w' : World) : Prop :=
  (∀ t a' q', r = .ok (t, a', q') → ∃ u, x = .returned (.tuple #[u.val, .int .i64 (a' : Int), .int .i64 0]) ∧ VT.Alike t u ∧ VT.In w' (fun b => w.heap.size ≤ b) u ∧ Below w.heap.size w w') ∧ (∀ p e : Nat, r = .error (p, e) → x = .returned (.tuple #[.agg #[.int .i64 0, .int .i64 0, .string ⟨#[]⟩, .slice none 0 0], .int .i64 (p : Int), .int .i64 (e : Int)]) ∧ Below w.heap.size w w')
set_option maxHeartbeats 4000000 in
theorem lead_any (B : Nat) (s : ByteArray) (w : World) (hs : s.size ≤ 140737488355328) (hB : B ≤ w.heap.size) (hT : Tabs B w) (hEr : Errs B w) :
    Calls Tryd.prog 7 #[.string s] w fun x w' => LeadPost w (parS s 3 0 0 0) x w' := by
  have hmf : ∀ (fn : Fn) (first cap : Array Value) (w : World), (Instr.makeFunc fn first cap).run Tryd.prog w = .ok (.func fn first cap) w := fun _ _ _ _ => rfl
  obtain ⟨R, hR⟩ : ∃ R, R = parS s 3 0 0 0 := ⟨_, rfl⟩
  rw [← hR]
  have HT := hid (And.intro hT hEr)
  clear hT hEr
  go_enter_defers Tryd.func7, Tryd.ntmps7
  go_wp2_with fail
  obtain ⟨q0, q1, q2, q3, hbe, hsz⟩ := dec_start w #[.int .i64 0, .int .i64 0, .string ⟨#[]⟩, .slice none 0 0] #[.int .i64 0] #[.int .i64 0] #[.string s, .int .i64 0, .int .i64 0] 24 3 32 49
  generalize hW0 : ((((w.alloc (.cells #[.int .i64 0, .int .i64 0, .string ⟨#[]⟩, .slice none 0 0] 24)).alloc (.cells #[.int .i64 0] 3)).alloc (.cells #[.int .i64 0] 32)).alloc (.cells #[.string s, .int .i64 0, .int .i64 0] 49)) = W0 at *
  have hbB : Below B w W0 := hbe.mono hB
  have hC := part_anyT B (w.heap.size + 1 + 1 + 1) s hs (by omega) 3 0 rfl W0 0 0 q3 (Nat.zero_le _) (by omega) (HT.out.1.on hbB) (HT.out.2.on hbB)
  rw [← hR] at hC
  refine hC.mono ?_
  intro x5 w5 hP5
  cases R with
  | error pe =>
    obtain ⟨p, e⟩ := pe
    obtain ⟨hx5, hk5⟩ := hP5.2 p e rfl
    unfold FailsAt at hx5
    subst hx5
    have g0 := q0.but hk5 (show w.heap.size ≠ w.heap.size + 1 + 1 + 1 by omega)
    have g1 := q1.but hk5 (show w.heap.size + 1 ≠ w.heap.size + 1 + 1 + 1 by omega)
    have g2 := q2.but hk5 (show w.heap.size + 1 + 1 ≠ w.heap.size + 1 + 1 + 1 by omega)
    refine leaves_cons (f := 18) (args := #[.pointer (some ⟨w.heap.size, 0, none⟩), .pointer (some ⟨w.heap.size + 1, 0, none⟩), .pointer (some ⟨w.heap.size + 1 + 1, 0, none⟩)]) (by simp) (by simp [go_sem]) ?_
    refine (catch_lead w.heap.size (w.heap.size + 1) (w.heap.size + 1 + 1) p e [] w5 _ _ _ _ _ _ g0 g1 g2 (by omega) (by omega) (by omega)).mono ?_
    rintro x6 u6 w6 ⟨rfl, rfl, r0, r1, r2, hk6⟩
    have c0 := r0.cell 0
    have c1 := r0.cell 1
    have c2 := r0.cell 2
    have c3 := r0.cell 3
    have d0 := r1.cell 0
    have e0 := r2.cell 0
    simp at c0 c1 c2 c3 d0 e0
    simp [Leaves, settle, results, Tryd.results7, go_sem, c0, c1, c2, c3, d0, e0]
    exact ⟨fun _ _ _ h => (by cases h), fun p2 e2 h => by cases h; exact ⟨rfl, (hbe.trans (hk5.below (by omega) fun k hk => by omega)).trans (hk6.below (by have := hk5.size; omega) fun k hk => by omega)⟩⟩
  | ok tt =>
    obtain ⟨t, a', q'⟩ := tt
    obtain ⟨u, rfl, hau, hiu, hb5, hk5⟩ := hP5.1 t a' q' rfl
    simp only [VT.val]
    have g0 := q0.but hk5 (show w.heap.size ≠ w.heap.size + 1 + 1 + 1 by omega)
    have g1 := q1.but hk5 (show w.heap.size + 1 ≠ w.heap.size + 1 + 1 + 1 by omega)
    have g2 := q2.but hk5 (show w.heap.size + 1 + 1 ≠ w.heap.size + 1 + 1 + 1 by omega)
    have c0 := g0.cell 0
    have c1 := g0.cell 1
    have c2 := g0.cell 2
    have c3 := g0.cell 3
    have f0 := g0.frozen 0
    have f1 := g0.frozen 1
    have f2 := g0.frozen 2
    have f3 := g0.frozen 3
    simp at c0 c1 c2 c3
    go_wp2_with fail
    have r0 := setV_box g0 (.int .i64 u.kind) (.int .i64 u.int) (.string u.text) (.slice u.p u.n u.c)
    have hk6 : But (fun y => y = w.heap.size) w5 ((((w5.setCell ⟨w.heap.size, 0, none⟩ (.int .i64 u.kind)).setCell ⟨w.heap.size, 1, none⟩ (.int .i64 u.int)).setCell ⟨w.heap.size, 2, none⟩ (.string u.text)).setCell ⟨w.heap.size, 3, none⟩ (.slice u.p u.n u.c)) := ((((But.one _ w.heap.size).setAt 0 _).setAt 1 _).setAt 2 _).setAt 3 _
    generalize hW6 : ((((w5.setCell ⟨w.heap.size, 0, none⟩ (.int .i64 u.kind)).setCell ⟨w.heap.size, 1, none⟩ (.int .i64 u.int)).setCell ⟨w.heap.size, 2, none⟩ (.string u.text)).setCell ⟨w.heap.size, 3, none⟩ (.slice u.p u.n u.c)) = w6 at r0 hk6 ⊢
    have r1 := g1.but hk6 (show w.heap.size + 1 ≠ w.heap.size by omega)
    have r2 := g2.but hk6 (show w.heap.size + 1 + 1 ≠ w.heap.size by omega)
    have r3 := Box.but hb5 hk6 (show w.heap.size + 1 + 1 + 1 ≠ w.heap.size by omega)
    have hu6 := hiu.but hk6 (fun b hb _ => by omega)
    have hbe6 : Below w.heap.size w w6 := (hbe.trans (hk5.below (by omega) fun k hk => by omega)).trans (hk6.below (by have := hk5.size; omega) fun k hk => by omega)
    have HX := hid (And.intro r0 (And.intro r1 (And.intro r2 (And.intro hu6 (And.intro hau hbe6)))))
    clear hW6 hW0 c0 c1 c2 c3 f0 f1 f2 f3 hiu hb5 hk5 hk6 g0 g1 g2 hP5 hC q0 q1 q2 q3 hbB hbe hau hu6 hbe6 hR
    have c0 := r0.cell 0
    have c1 := r0.cell 1
    have c2 := r0.cell 2
    have c3 := r0.cell 3
    have f0 := r0.frozen 0
    have f1 := r0.frozen 1
    have f2 := r0.frozen 2
    have f3 := r0.frozen 3
    have d0 := r1.cell 0
    have e0 := r2.cell 0
    have fd := r1.frozen 0
    have fe := r2.frozen 0
    have m1 := r3.cell 1
    simp at c0 c1 c2 c3 d0 e0 m1
    clear r0 r1 r2 r3
    go_region
    all_goals
      go_wp2
      obtain ⟨r0, r1, r2, hu6, hau, hbe6⟩ := HX.out
      have s0 := setV_box r0 (.int .i64 u.kind) (.int .i64 u.int) (.string u.text) (.slice u.p u.n u.c)
      have hk7 : But (fun y => y = w.heap.size) w6 ((((w6.setCell ⟨w.heap.size, 0, none⟩ (.int .i64 u.kind)).setCell ⟨w.heap.size, 1, none⟩ (.int .i64 u.int)).setCell ⟨w.heap.size, 2, none⟩ (.string u.text)).setCell ⟨w.heap.size, 3, none⟩ (.slice u.p u.n u.c)) := ((((But.one _ w.heap.size).setAt 0 _).setAt 1 _).setAt 2 _).setAt 3 _
      have s1 := r1.but hk7 (show w.heap.size + 1 ≠ w.heap.size by omega)
      have s2 := r2.but hk7 (show w.heap.size + 1 + 1 ≠ w.heap.size by omega)
      have hk8 := ((hk7.mono (Y := fun y => y = w.heap.size ∨ y = w.heap.size + 1 ∨ y = w.heap.size + 1 + 1) fun b _ hb => Or.inl hb).setCell (p := ⟨w.heap.size + 1, 0, none⟩) (fun _ => Or.inr (Or.inl rfl)) (.int .i64 (a' : Int))).setCell (p := ⟨w.heap.size + 1 + 1, 0, none⟩) (fun _ => Or.inr (Or.inr rfl)) (.int .i64 0)
      have t0 := (s0.kept (Below.heap_setCell _ ⟨w.heap.size + 1, 0, none⟩ (.int .i64 (a' : Int)) _ (show w.heap.size ≠ w.heap.size + 1 by omega))).kept (Below.heap_setCell _ ⟨w.heap.size + 1 + 1, 0, none⟩ (.int .i64 0) _ (show w.heap.size ≠ w.heap.size + 1 + 1 by omega))
      have t1 := (s1.set 0 (.int .i64 (a' : Int))).kept (Below.heap_setCell _ ⟨w.heap.size + 1 + 1, 0, none⟩ (.int .i64 0) _ (show w.heap.size + 1 ≠ w.heap.size + 1 + 1 by omega))
      have t2 := (s2.kept (Below.heap_setCell _ ⟨w.heap.size + 1, 0, none⟩ (.int .i64 (a' : Int)) _ (show w.heap.size + 1 + 1 ≠ w.heap.size + 1 by omega))).set 0 (.int .i64 0)
      generalize ((((((w6.setCell ⟨w.heap.size, 0, none⟩ (.int .i64 u.kind)).setCell ⟨w.heap.size, 1, none⟩ (.int .i64 u.int)).setCell ⟨w.heap.size, 2, none⟩ (.string u.text)).setCell ⟨w.heap.size, 3, none⟩ (.slice u.p u.n u.c)).setCell ⟨w.heap.size + 1, 0, none⟩ (.int .i64 (a' : Int))).setCell ⟨w.heap.size + 1 + 1, 0, none⟩ (.int .i64 0)) = w7 at hk8 t0 t1 t2 ⊢
      clear c0 c1 c2 c3 d0 e0 m1
      have c0 := t0.cell 0
      have c1 := t0.cell 1
      have c2 := t0.cell 2
      have c3 := t0.cell 3
      have d0 := t1.cell 0
      have e0 := t2.cell 0
      simp at c0 c1 c2 c3 d0 e0
      refine leaves_cons (f := 18) (args := #[.pointer (some ⟨w.heap.size, 0, none⟩), .pointer (some ⟨w.heap.size + 1, 0, none⟩), .pointer (some ⟨w.heap.size + 1 + 1, 0, none⟩)]) (by simp) (by simp [go_sem]) ?_
      refine (idle_lead ⟨w.heap.size, 0, none⟩ ⟨w.heap.size + 1, 0, none⟩ ⟨w.heap.size + 1 + 1, 0, none⟩ _).mono ?_
      rintro x8 u8 w8 ⟨rfl, rfl, rfl⟩
      simp [Leaves, settle, results, Tryd.results7, go_sem, c0, c1, c2, c3, d0, e0]
      refine ⟨fun t2 a2 q2 h => ?_, fun p2 e2 h => (by cases h)⟩
      cases h
      exact ⟨u, rfl, hau, ((hu6.but hk8 (fun b hb _ => by omega)).mono fun b hb _ => by omega).kept (Nat.le_refl _) (fun _ _ _ => rfl), (hbe6.trans (hk8.below hbe6.size fun k hk => by omega)).drew⟩
end Go.Proofs.YtoifpdnaeogdgabDoor
