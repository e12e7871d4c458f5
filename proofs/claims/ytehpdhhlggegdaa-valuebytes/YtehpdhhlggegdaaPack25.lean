import Derived.Test.YtehpdhhlggegdaaPack24
import Derived.Defers
import Derived.Recover
import Derived.Test.YtehpdhhlggegdaaPack10
namespace Go.Proofs.Ytehpdhhlggegdaa
open Go.RowKit
set_option maxRecDepth 8000
theorem fault_yes (W : World) (v : Value) : (Instr.typeAssert (.iface 97 v) 20 97 true).run Try.prog W = .ok (.tuple #[v, .bool true]) W := by kernel_rfl
set_option maxHeartbeats 2000000 in
theorem asFault_any (a e : Int) (w : World) : Calls Try.prog 55 #[faultV a e] w fun x w' => x = .returned (.agg #[.int .i64 a, .int .i64 e]) ∧ Below w.heap.size w w' := by
  have HT := fault_yes
  unfold faultV
  go_enter Try.func55, Try.ntmps55
  go_wp2
  refine bodyPost_ret (v := .agg #[.int .i64 a, .int .i64 e]) (by simp [results, Try.results55, go_sem]) rfl ⟨rfl, ((Below.refl _ _).alloc (Nat.le_refl _) _).alloc (by simp) _⟩
theorem fault_err (W : World) (a e : Int) : (Instr.field 97 (.agg #[.int .i64 a, .int .i64 e]) 1).run Try.prog W = .ok (.int .i64 e) W := by kernel_rfl
set_option maxHeartbeats 2000000 in
theorem catch_idle (p0 p1 p2 : Addr) (w : World) :
    CallsD Try.prog 54 #[.pointer (some p0), .pointer (some p1), .pointer (some p2)] .returning w fun x u' w' => x = .returned (.tuple #[]) ∧ u' = .returning ∧ w' = w := by
  refine callsD_of_wpS Try.func54 rfl fun c₀ cs hu => ?_
  apply wpS_seq
  apply wpS_region
  simp [wpOpsS, go_sem, recoverD, hu, Try.ntmps54, Exit.thenS]
  simp only [Array.replicate, List.replicate]
  refine wpS_of_wp ?_
  go_wp2_with fail
  cases c₀
  simp_all [bodyPostS, results, Try.results54]
set_option maxHeartbeats 2000000 in
theorem catch_fault (b0 b1 b2 : Nat) (a e : Int) (older : List PanicEntry) (w : World) (x0 x1 x2 x3 y z : Value) (h0 : Box w b0 #[x0, x1, x2, x3] 24) (h1 : Box w b1 #[y] 3) (h2 : Box w b2 #[z] 38) (h01 : b0 ≠ b1) (h02 : b0 ≠ b2) (h12 : b1 ≠ b2) :
    CallsD Try.prog 54 #[.pointer (some ⟨b0, 0, none⟩), .pointer (some ⟨b1, 0, none⟩), .pointer (some ⟨b2, 0, none⟩)] (.panicking ({ v := faultV a e, recovered := false } :: older)) w fun x u' w' =>
      x = .returned (.tuple #[]) ∧ u' = .panicking ({ v := faultV a e, recovered := true } :: older) ∧ Box w' b0 #[.int .i64 0, .int .i64 0, .string ⟨#[]⟩, .slice none 0 0] 24 ∧ Box w' b1 #[.int .i64 0] 3 ∧ Box w' b2 #[.int .i64 e] 38 ∧ But (fun y => y = b0 ∨ y = b1 ∨ y = b2) w w' := by
  have HA := fun W => asFault_any a e W
  have HE := fun W => fault_err W a e
  unfold faultV at *
  refine callsD_of_wpS Try.func54 rfl fun c₀ cs hu => ?_
  apply wpS_seq
  apply wpS_region
  simp [wpOpsS, go_sem, recoverD, hu, Try.ntmps54, Exit.thenS]
  simp only [Array.replicate, List.replicate]
  refine wpS_of_wp ?_
  go_wp2_with fail
  refine (HA _).mono ?_
  rintro x5 w2 ⟨rfl, hb2⟩
  have g0 := h0.below hb2
  have g1 := h1.below hb2
  have g2 := h2.below hb2
  have c0 := g0.cell 0
  have c1 := g0.cell 1
  have c2 := g0.cell 2
  have c3 := g0.cell 3
  have d0 := g1.cell 0
  have e0 := g2.cell 0
  have f0 := g0.frozen 0
  have f1 := g0.frozen 1
  have f2 := g0.frozen 2
  have f3 := g0.frozen 3
  have fd := g1.frozen 0
  have fe := g2.frozen 0
  simp at c0 c1 c2 c3 d0 e0
  have h10 := h01.symm
  have h20 := h02.symm
  have h21 := h12.symm
  go_wp2
  have hk4 : But (fun y => y = b0) w2 ((((w2.setCell ⟨b0, 0, none⟩ (.int .i64 0)).setCell ⟨b0, 1, none⟩ (.int .i64 0)).setCell ⟨b0, 2, none⟩ (.string ⟨#[]⟩)).setCell ⟨b0, 3, none⟩ (.slice none 0 0)) := ((((But.one _ b0).setAt 0 _).setAt 1 _).setAt 2 _).setAt 3 _
  refine ⟨rfl, _, rfl, .tuple #[], by simp [results, Try.results54], rfl, rfl, ?_, ?_, ?_, ?_⟩
  · exact ((setV_box g0 _ _ _ _).kept (Below.heap_setCell _ _ _ _ (show b0 ≠ b1 by omega))).kept (Below.heap_setCell _ _ _ _ (show b0 ≠ b2 by omega))
  · exact ((g1.but hk4 h10).set 0 (.int .i64 0)).kept (Below.heap_setCell _ _ _ _ (show b1 ≠ b2 by omega))
  · exact ((g2.but hk4 h20).kept (Below.heap_setCell _ _ _ _ (show b2 ≠ b1 by omega))).set 0 (.int .i64 e)
  · exact (((((((But.ofBelow hb2).setCell (p := ⟨b0, 0, none⟩) (fun _ => Or.inl rfl) _).setCell (p := ⟨b0, 1, none⟩) (fun _ => Or.inl rfl) _).setCell (p := ⟨b0, 2, none⟩) (fun _ => Or.inl rfl) _).setCell (p := ⟨b0, 3, none⟩) (fun _ => Or.inl rfl) _).setCell (p := ⟨b1, 0, none⟩) (fun _ => Or.inr (Or.inl rfl)) _).setCell (p := ⟨b2, 0, none⟩) (fun _ => Or.inr (Or.inr rfl)) _)
/-- what value.Decode comes to -/
def DecPost (w : World) (r : DR) (x : Ending) (w' : World) : Prop :=
  (∀ t a' q', r = .ok (t, a', q') → ∃ u, x = .returned (.tuple #[u.val, .int .i64 (a' : Int), .int .i64 0]) ∧ VT.Alike t u ∧ VT.In w' (fun b => w.heap.size ≤ b) u ∧ Below w.heap.size w w') ∧ (∀ e : Nat, r = .error e → x = .returned (.tuple #[.agg #[.int .i64 0, .int .i64 0, .string ⟨#[]⟩, .slice none 0 0], .int .i64 0, .int .i64 (e : Int)]) ∧ Below w.heap.size w w')
theorem dec_start (w : World) (A B C D : Array Value) (ta tb tc td : TypeId) :
    Box ((((w.alloc (.cells A ta)).alloc (.cells B tb)).alloc (.cells C tc)).alloc (.cells D td)) w.heap.size A ta ∧
    Box ((((w.alloc (.cells A ta)).alloc (.cells B tb)).alloc (.cells C tc)).alloc (.cells D td)) (w.heap.size + 1) B tb ∧
    Box ((((w.alloc (.cells A ta)).alloc (.cells B tb)).alloc (.cells C tc)).alloc (.cells D td)) (w.heap.size + 1 + 1) C tc ∧
    Box ((((w.alloc (.cells A ta)).alloc (.cells B tb)).alloc (.cells C tc)).alloc (.cells D td)) (w.heap.size + 1 + 1 + 1) D td ∧
    Below w.heap.size w ((((w.alloc (.cells A ta)).alloc (.cells B tb)).alloc (.cells C tc)).alloc (.cells D td)) ∧ ((((w.alloc (.cells A ta)).alloc (.cells B tb)).alloc (.cells C tc)).alloc (.cells D td)).heap.size = w.heap.size + 4 := by
  have z1 : (w.alloc (.cells A ta)).heap.size = w.heap.size + 1 := by simp
  have z2 : ((w.alloc (.cells A ta)).alloc (.cells B tb)).heap.size = w.heap.size + 1 + 1 := by simp
  have z3 : (((w.alloc (.cells A ta)).alloc (.cells B tb)).alloc (.cells C tc)).heap.size = w.heap.size + 1 + 1 + 1 := by simp
  have b1 := Box.new w A ta
  have b2 := Box.new (w.alloc (.cells A ta)) B tb
  have b3 := Box.new ((w.alloc (.cells A ta)).alloc (.cells B tb)) C tc
  have b4 := Box.new (((w.alloc (.cells A ta)).alloc (.cells B tb)).alloc (.cells C tc)) D td
  rw [z1] at b2
  rw [z2] at b3
  rw [z3] at b4
  have l1 := fun (W : World) o => (Below.refl W.heap.size W).alloc (Nat.le_refl _) o
  refine ⟨((b1.below (l1 _ _)).below (l1 _ _)).below (l1 _ _), (b2.below (l1 _ _)).below (l1 _ _), b3.below (l1 _ _), b4, ?_, by simp⟩
  exact ((((Below.refl _ _).alloc (Nat.le_refl _) _).alloc (by omega) _).alloc (by omega) _).alloc (by omega) _
set_option maxHeartbeats 4000000 in
theorem decode_any (p : Option Addr) (n c : Nat) (f : Nat → Int) (S : Nat → Prop) (w : World) (hY : Byts w S p n c f) (hS : ∀ b, S b → b < w.heap.size) :
    Calls Try.prog 31 #[.slice p n c] w fun x w' => DecPost w (decS f n 3 0 0 0) x w' := by
  have hmf : ∀ (fn : Fn) (first cap : Array Value) (w : World), (Instr.makeFunc fn first cap).run Try.prog w = .ok (.func fn first cap) w := fun _ _ _ _ => rfl
  obtain ⟨R, hR⟩ : ∃ R, R = decS f n 3 0 0 0 := ⟨_, rfl⟩
  rw [← hR]
  have HY := hid hY
  clear hY
  go_enter_defers Try.func31, Try.ntmps31
  go_wp2_with fail
  obtain ⟨q0, q1, q2, q3, hbe, hsz⟩ := dec_start w #[.int .i64 0, .int .i64 0, .string ⟨#[]⟩, .slice none 0 0] #[.int .i64 0] #[.int .i64 0] #[.slice p n c, .int .i64 0, .int .i64 0] 24 3 38 100
  generalize hW0 : ((((w.alloc (.cells #[.int .i64 0, .int .i64 0, .string ⟨#[]⟩, .slice none 0 0] 24)).alloc (.cells #[.int .i64 0] 3)).alloc (.cells #[.int .i64 0] 38)).alloc (.cells #[.slice p n c, .int .i64 0, .int .i64 0] 100)) = W0 at *
  have hYW : Byts W0 S p n c f := HY.out.kept hbe.size fun b hb _ => hbe.block b (hS b hb)
  have hC := part_any (w.heap.size + 1 + 1 + 1) p n c f 3 0 rfl W0 S 0 0 hYW (fun h => by have := hS _ h; omega) q3 (by omega) (by omega)
  rw [← hR] at hC
  refine hC.mono ?_
  intro x5 w5 hP5
  have hnd : ∀ b, b ≠ w.heap.size + 1 + 1 + 1 → ¬ b = w.heap.size + 1 + 1 + 1 := fun _ h => h
  cases R with
  | error e =>
    obtain ⟨⟨c5, rfl⟩, hk5⟩ := hP5.2 e rfl
    have g0 := q0.but hk5 (show w.heap.size ≠ w.heap.size + 1 + 1 + 1 by omega)
    have g1 := q1.but hk5 (show w.heap.size + 1 ≠ w.heap.size + 1 + 1 + 1 by omega)
    have g2 := q2.but hk5 (show w.heap.size + 1 + 1 ≠ w.heap.size + 1 + 1 + 1 by omega)
    refine leaves_cons (f := 54) (args := #[.pointer (some ⟨w.heap.size, 0, none⟩), .pointer (some ⟨w.heap.size + 1, 0, none⟩), .pointer (some ⟨w.heap.size + 1 + 1, 0, none⟩)]) (by simp) (by simp [go_sem]) ?_
    refine (catch_fault w.heap.size (w.heap.size + 1) (w.heap.size + 1 + 1) c5 e [] w5 _ _ _ _ _ _ g0 g1 g2 (by omega) (by omega) (by omega)).mono ?_
    rintro x6 u6 w6 ⟨rfl, rfl, r0, r1, r2, hk6⟩
    have c0 := r0.cell 0
    have c1 := r0.cell 1
    have c2 := r0.cell 2
    have c3 := r0.cell 3
    have d0 := r1.cell 0
    have e0 := r2.cell 0
    simp at c0 c1 c2 c3 d0 e0
    simp [Leaves, settle, results, Try.results31, go_sem, c0, c1, c2, c3, d0, e0]
    exact ⟨fun _ _ _ h => (by cases h), fun e2 h => by cases h; exact ⟨rfl, (hbe.trans (hk5.below (by omega) fun k hk => by omega)).trans (hk6.below (by have := hk5.size; omega) fun k hk => by omega)⟩⟩
  | ok tt =>
    obtain ⟨t, a', q'⟩ := tt
    obtain ⟨u, rfl, hau, hiu, hb5, hk5⟩ := hP5.1 t a' q' rfl
    simp only [VT.val]
    have g0 := q0.but hk5 (show w.heap.size ≠ w.heap.size + 1 + 1 + 1 by omega)
    have g1 := q1.but hk5 (show w.heap.size + 1 ≠ w.heap.size + 1 + 1 + 1 by omega)
    have g2 := q2.but hk5 (show w.heap.size + 1 + 1 ≠ w.heap.size + 1 + 1 + 1 by omega)
    have c0 := g0.cell 0
    have c1 := g0.cell 1
    have c2 := g0.cell 2
    have c3 := g0.cell 3
    have f0 := g0.frozen 0
    have f1 := g0.frozen 1
    have f2 := g0.frozen 2
    have f3 := g0.frozen 3
    simp at c0 c1 c2 c3
    go_wp2_with fail
    have r0 := setV_box g0 (.int .i64 u.kind) (.int .i64 u.int) (.string u.text) (.slice u.p u.n u.c)
    have hk6 : But (fun y => y = w.heap.size) w5 ((((w5.setCell ⟨w.heap.size, 0, none⟩ (.int .i64 u.kind)).setCell ⟨w.heap.size, 1, none⟩ (.int .i64 u.int)).setCell ⟨w.heap.size, 2, none⟩ (.string u.text)).setCell ⟨w.heap.size, 3, none⟩ (.slice u.p u.n u.c)) := ((((But.one _ w.heap.size).setAt 0 _).setAt 1 _).setAt 2 _).setAt 3 _
    generalize hW6 : ((((w5.setCell ⟨w.heap.size, 0, none⟩ (.int .i64 u.kind)).setCell ⟨w.heap.size, 1, none⟩ (.int .i64 u.int)).setCell ⟨w.heap.size, 2, none⟩ (.string u.text)).setCell ⟨w.heap.size, 3, none⟩ (.slice u.p u.n u.c)) = w6 at r0 hk6 ⊢
    have r1 := g1.but hk6 (show w.heap.size + 1 ≠ w.heap.size by omega)
    have r2 := g2.but hk6 (show w.heap.size + 1 + 1 ≠ w.heap.size by omega)
    have r3 := hb5.but hk6 (show w.heap.size + 1 + 1 + 1 ≠ w.heap.size by omega)
    have hu6 := hiu.but hk6 (fun b hb _ => by omega)
    have hbe6 : Below w.heap.size w w6 := (hbe.trans (hk5.below (by omega) fun k hk => by omega)).trans (hk6.below (by have := hk5.size; omega) fun k hk => by omega)
    have HX := hid (And.intro r0 (And.intro r1 (And.intro r2 (And.intro hu6 (And.intro hau hbe6)))))
    clear hW6 hW0 c0 c1 c2 c3 f0 f1 f2 f3 hiu hb5 hk5 hk6 g0 g1 g2 hP5 hC q0 q1 q2 q3 hYW hbe hau hu6 hbe6 hR
    have c0 := r0.cell 0
    have c1 := r0.cell 1
    have c2 := r0.cell 2
    have c3 := r0.cell 3
    have f0 := r0.frozen 0
    have f1 := r0.frozen 1
    have f2 := r0.frozen 2
    have f3 := r0.frozen 3
    have d0 := r1.cell 0
    have e0 := r2.cell 0
    have fd := r1.frozen 0
    have fe := r2.frozen 0
    have m1 := r3.cell 1
    simp at c0 c1 c2 c3 d0 e0 m1
    clear r0 r1 r2 r3
    go_region
    all_goals
      go_wp2
      obtain ⟨r0, r1, r2, hu6, hau, hbe6⟩ := HX.out
      have s0 := setV_box r0 (.int .i64 u.kind) (.int .i64 u.int) (.string u.text) (.slice u.p u.n u.c)
      have hk7 : But (fun y => y = w.heap.size) w6 ((((w6.setCell ⟨w.heap.size, 0, none⟩ (.int .i64 u.kind)).setCell ⟨w.heap.size, 1, none⟩ (.int .i64 u.int)).setCell ⟨w.heap.size, 2, none⟩ (.string u.text)).setCell ⟨w.heap.size, 3, none⟩ (.slice u.p u.n u.c)) := ((((But.one _ w.heap.size).setAt 0 _).setAt 1 _).setAt 2 _).setAt 3 _
      have s1 := r1.but hk7 (show w.heap.size + 1 ≠ w.heap.size by omega)
      have s2 := r2.but hk7 (show w.heap.size + 1 + 1 ≠ w.heap.size by omega)
      have hk8 := ((hk7.mono (Y := fun y => y = w.heap.size ∨ y = w.heap.size + 1 ∨ y = w.heap.size + 1 + 1) fun b _ hb => Or.inl hb).setCell (p := ⟨w.heap.size + 1, 0, none⟩) (fun _ => Or.inr (Or.inl rfl)) (.int .i64 (a' : Int))).setCell (p := ⟨w.heap.size + 1 + 1, 0, none⟩) (fun _ => Or.inr (Or.inr rfl)) (.int .i64 0)
      have t0 := (s0.kept (Below.heap_setCell _ ⟨w.heap.size + 1, 0, none⟩ (.int .i64 (a' : Int)) _ (show w.heap.size ≠ w.heap.size + 1 by omega))).kept (Below.heap_setCell _ ⟨w.heap.size + 1 + 1, 0, none⟩ (.int .i64 0) _ (show w.heap.size ≠ w.heap.size + 1 + 1 by omega))
      have t1 := (s1.set 0 (.int .i64 (a' : Int))).kept (Below.heap_setCell _ ⟨w.heap.size + 1 + 1, 0, none⟩ (.int .i64 0) _ (show w.heap.size + 1 ≠ w.heap.size + 1 + 1 by omega))
      have t2 := (s2.kept (Below.heap_setCell _ ⟨w.heap.size + 1, 0, none⟩ (.int .i64 (a' : Int)) _ (show w.heap.size + 1 + 1 ≠ w.heap.size + 1 by omega))).set 0 (.int .i64 0)
      generalize ((((((w6.setCell ⟨w.heap.size, 0, none⟩ (.int .i64 u.kind)).setCell ⟨w.heap.size, 1, none⟩ (.int .i64 u.int)).setCell ⟨w.heap.size, 2, none⟩ (.string u.text)).setCell ⟨w.heap.size, 3, none⟩ (.slice u.p u.n u.c)).setCell ⟨w.heap.size + 1, 0, none⟩ (.int .i64 (a' : Int))).setCell ⟨w.heap.size + 1 + 1, 0, none⟩ (.int .i64 0)) = w7 at hk8 t0 t1 t2 ⊢
      clear c0 c1 c2 c3 d0 e0 m1
      have c0 := t0.cell 0
      have c1 := t0.cell 1
      have c2 := t0.cell 2
      have c3 := t0.cell 3
      have d0 := t1.cell 0
      have e0 := t2.cell 0
      simp at c0 c1 c2 c3 d0 e0
      refine leaves_cons (f := 54) (args := #[.pointer (some ⟨w.heap.size, 0, none⟩), .pointer (some ⟨w.heap.size + 1, 0, none⟩), .pointer (some ⟨w.heap.size + 1 + 1, 0, none⟩)]) (by simp) (by simp [go_sem]) ?_
      refine (catch_idle ⟨w.heap.size, 0, none⟩ ⟨w.heap.size + 1, 0, none⟩ ⟨w.heap.size + 1 + 1, 0, none⟩ _).mono ?_
      rintro x8 u8 w8 ⟨rfl, rfl, rfl⟩
      simp [Leaves, settle, results, Try.results31, go_sem, c0, c1, c2, c3, d0, e0]
      refine ⟨fun t2 a2 q2 h => ?_, fun e2 h => (by cases h)⟩
      cases h
      exact ⟨u, rfl, hau, ((hu6.but hk8 (fun b hb _ => by omega)).mono fun b hb _ => by omega).kept (Nat.le_refl _) (fun _ _ _ => rfl), (hbe6.trans (hk8.below hbe6.size fun k hk => by omega)).drew⟩
end Go.Proofs.Ytehpdhhlggegdaa

namespace Go.Proofs.Ytehpdhhlggegdaa
open Go.RowKit
set_option maxRecDepth 8000
def sliceLen : Value → Nat
  | .slice _ n _ => n
  | _ => 0
theorem dec_bad {w wr : World} {v5 v6 : Value} {L : List PT} {st : List Nat} {R : DR} {e : Nat} (hM : Mach w w.heap.size wr v5 v6 L st) (hR : R = .error e) :
    DecPost w R (.returned (.tuple #[.agg #[.int .i64 0, .int .i64 0, .string ⟨#[]⟩, .slice none 0 0], .int .i64 0, .int .i64 (e : Int)])) ((((wr.setCell ⟨w.heap.size, 0, none⟩ (.int .i64 0)).setCell ⟨w.heap.size, 1, none⟩ (.int .i64 0)).setCell ⟨w.heap.size, 2, none⟩ (.string ⟨#[]⟩)).setCell ⟨w.heap.size, 3, none⟩ (.slice none 0 0)) := by
  refine ⟨fun t a q h => (by rw [hR] at h; cases h), fun e2 h => ?_⟩
  rw [hR] at h
  cases h
  have hk : But (fun x => x = w.heap.size) wr ((((wr.setCell ⟨w.heap.size, 0, none⟩ (.int .i64 0)).setCell ⟨w.heap.size, 1, none⟩ (.int .i64 0)).setCell ⟨w.heap.size, 2, none⟩ (.string ⟨#[]⟩)).setCell ⟨w.heap.size, 3, none⟩ (.slice none 0 0)) :=
    ((((But.one _ w.heap.size).setAt 0 _).setAt 1 _).setAt 2 _).setAt 3 _
  exact ⟨rfl, hM.below.trans (hk.below (by have := hM.box.lt; omega) (fun x hx => by omega))⟩
set_option maxHeartbeats 4000000 in
theorem refDecode_any (p : Option Addr) (n c : Nat) (f : Nat → Int) (S : Nat → Prop) (w : World) (hY : Byts w S p n c f) (hS : ∀ b, S b → b < w.heap.size) :
    Calls Try.prog 32 #[.slice p n c] w fun x w' => DecPost w (decS f n 3 0 0 0) x w' := by
  have hnn := hY.nn
  have HPart : Hid (∀ (W : World), Below w.heap.size w W → ∀ (a d : Nat), a < n → d ≤ 3 → Calls Try.prog 57 #[.slice p n c, .int .i64 (a : Int), .int .i64 (d : Int)] W fun x w' => RPPost W a (rpS f n d a) x w') :=
    fun W hW a d ha hd => refPart_any p n c a d W S f (hY.kept hW.size fun b hb _ => hW.block b (hS b hb)) (fun b hb => Nat.lt_of_lt_of_le (hS b hb) hW.size) ha hd
  have HE : Hid (∀ e : Nat, headS f n [] 0 0 = .error e → decS f n 3 0 0 0 = .error e) := fun e h => head_err h
  have HK : Hid (∀ L a q, headS f n [] 0 0 = .ok (L, a, q) → ∃ v, decS f n 3 0 0 0 = .ok (v, a, q) ∧ flatP v = L ∧ Whole v) := fun L a q h => head_ok h
  obtain ⟨R, hR⟩ : ∃ R, R = decS f n 3 0 0 0 := ⟨_, rfl⟩
  rw [← hR] at HE HK ⊢
  obtain ⟨T, hT0⟩ : ∃ T, T = headS f n [] 0 0 := ⟨_, rfl⟩
  rw [← hT0] at HE HK
  have HT0 := hid hT0
  obtain ⟨i0, KdP⟩ := kindP
  obtain ⟨i1, KdI⟩ := kindI
  clear hY hS hR hT0
  go_enter Try.func32, Try.ntmps32
  go_wp2_with fail
  have HS0 : Hid (Mach w w.heap.size (w.alloc (.cells #[.int .i64 0, .int .i64 0, .string ⟨#[]⟩, .slice none 0 0] 24)) (.slice none 0 0) (.slice none 0 0) [] []) :=
    ⟨World.ownsRow_nil _ _ _ _, World.ownsRow_nil _ _ _ _, fun g h => (by cases h), Box.new _ _ _, (Below.refl _ _).alloc (Nat.le_refl _) _, fun q h => (by cases h), by simp, by simp, fun c h => (by cases h)⟩
  go_loopw [5, 6, 7] (fun x y z wr => ∃ (L : List PT) (st : List Nat) (a : Nat), z = .int .i64 (a : Int) ∧ a ≤ n ∧ Mach w w.heap.size wr x y L st ∧ T = ahead L (headS f n st a L.length)) (fun x _ _ _ => 12 - sliceLen x)
  case atStart => exact ⟨[], [], 0, rfl, Nat.zero_le _, HS0.out, by rw [ahead_nil]; exact HT0.out⟩
  case round =>
    obtain ⟨L, st, a, rfl, ha, hM, hT⟩ := hrel
    clear HS0 HT0
    obtain ⟨p5, c5, rfl⟩ := ownsRow_slice hM.own
    obtain ⟨p6, c6, rfl⟩ := ownsRow_slice hM.stk
    have hlen := hM.len
    have hdep := hM.dep
    have HM := hid hM
    have HT := hid hT
    have b0 := hM.box.cell 0
    have b1 := hM.box.cell 1
    have b2 := hM.box.cell 2
    have b3 := hM.box.cell 3
    have g0 := hM.box.frozen 0
    have g1 := hM.box.frozen 1
    have g2 := hM.box.frozen 2
    have g3 := hM.box.frozen 3
    simp at b0 b1 b2 b3
    clear hM hT
    by_cases h1 : n ≤ a
    · have h1' : (n : Int) ≤ (a : Int) := by omega
      have HRe : Hid (R = .error 28) := HE.out 28 (by rw [HT.out, headS_end _ _ _ _ _ h1]; rfl)
      go_wp2
      refine bodyPost_ret (v := .tuple #[.agg #[.int .i64 0, .int .i64 0, .string ⟨#[]⟩, .slice none 0 0], .int .i64 0, .int .i64 28]) (by simp [results, Try.results32, go_sem, b0, b1, b2, b3]) rfl ?_
      exact dec_bad HM.out HRe.out
    · have h1' : ¬ (n : Int) ≤ (a : Int) := by omega
      by_cases h2 : L.length = 12
      · have h2' : (L.length : Int) = 12 := by omega
        have HRe : Hid (R = .error 22) := HE.out 22 (by rw [HT.out, headS_full _ _ _ _ _ (by omega) (by omega)]; rfl)
        go_wp2
        refine bodyPost_ret (v := .tuple #[.agg #[.int .i64 0, .int .i64 0, .string ⟨#[]⟩, .slice none 0 0], .int .i64 0, .int .i64 22]) (by simp [results, Try.results32, go_sem, b0, b1, b2, b3]) rfl ?_
        exact dec_bad HM.out HRe.out
      · have h2' : ¬ (L.length : Int) = 12 := by omega
        have HC := hid (HPart.out _ HM.out.below a st.length (by omega) hdep)
        go_wp2_with (go_at_call 57; refine HC.out.mono ?_)
        intro x5 w5 hP5
        obtain ⟨hb5, hok5, her5⟩ := hP5
        have HM5 := hid (HM.out.kept hb5)
        clear b0 b1 b2 b3 g0 g1 g2 g3 HC
        have b0 := HM5.out.box.cell 0
        have b1 := HM5.out.box.cell 1
        have b2 := HM5.out.box.cell 2
        have b3 := HM5.out.box.cell 3
        have g0 := HM5.out.box.frozen 0
        have g1 := HM5.out.box.frozen 1
        have g2 := HM5.out.box.frozen 2
        have g3 := HM5.out.box.frozen 3
        have hl5 := HM5.out.box.lt
        simp at b0 b1 b2 b3
        cases hrp : rpS f n st.length a with
        | error e =>
          obtain ⟨k5, i5, s5, m5, z5, rfl⟩ := her5 e hrp
          have he0 : ¬ ((e : Nat) : Int) = 0 := by
            have := rpS_errs hrp
            omega
          have HRe : Hid (R = .error e) := HE.out e (by rw [HT.out, headS_err (by omega) (by omega) hdep hrp]; rfl)
          have HM6 := hid (HM5.out.kept ((Below.refl _ _).alloc (Nat.le_refl _) (.cells #[.int .i64 k5, .int .i64 i5, .string s5, .int .i64 m5] 93)))
          clear hok5 her5 hrp hb5
          go_wp2
          have hk5 : But (fun x => x = w.heap.size) w5 ((((w5.setCell ⟨w.heap.size, 0, none⟩ (.int .i64 0)).setCell ⟨w.heap.size, 1, none⟩ (.int .i64 0)).setCell ⟨w.heap.size, 2, none⟩ (.string ⟨#[]⟩)).setCell ⟨w.heap.size, 3, none⟩ (.slice none 0 0)) :=
            ((((But.one _ w.heap.size).setAt 0 _).setAt 1 _).setAt 2 _).setAt 3 _
          have hx5 := setV_box HM5.out.box (.int .i64 0) (.int .i64 0) (.string ⟨#[]⟩) (.slice none 0 0)
          have hb5 : Below w.heap.size w ((((w5.setCell ⟨w.heap.size, 0, none⟩ (.int .i64 0)).setCell ⟨w.heap.size, 1, none⟩ (.int .i64 0)).setCell ⟨w.heap.size, 2, none⟩ (.string ⟨#[]⟩)).setCell ⟨w.heap.size, 3, none⟩ (.slice none 0 0)) := HM5.out.below.trans (hk5.below (by omega) (fun x hx => by omega))
          have hb6 := (Below.refl ((((w5.setCell ⟨w.heap.size, 0, none⟩ (.int .i64 0)).setCell ⟨w.heap.size, 1, none⟩ (.int .i64 0)).setCell ⟨w.heap.size, 2, none⟩ (.string ⟨#[]⟩)).setCell ⟨w.heap.size, 3, none⟩ (.slice none 0 0)).heap.size ((((w5.setCell ⟨w.heap.size, 0, none⟩ (.int .i64 0)).setCell ⟨w.heap.size, 1, none⟩ (.int .i64 0)).setCell ⟨w.heap.size, 2, none⟩ (.string ⟨#[]⟩)).setCell ⟨w.heap.size, 3, none⟩ (.slice none 0 0))).alloc (Nat.le_refl _) (.cells #[.int .i64 k5, .int .i64 i5, .string s5, .int .i64 m5] 93)
          have hx6 := hx5.below hb6
          have hb7 := hb5.trans (hb6.mono hb5.size)
          generalize ((((w5.setCell ⟨w.heap.size, 0, none⟩ (.int .i64 0)).setCell ⟨w.heap.size, 1, none⟩ (.int .i64 0)).setCell ⟨w.heap.size, 2, none⟩ (.string ⟨#[]⟩)).setCell ⟨w.heap.size, 3, none⟩ (.slice none 0 0)).alloc (.cells #[.int .i64 k5, .int .i64 i5, .string s5, .int .i64 m5] 93) = w6 at hx6 hb7 ⊢
          clear b0 b1 b2 b3
          have b0 := hx6.cell 0
          have b1 := hx6.cell 1
          have b2 := hx6.cell 2
          have b3 := hx6.cell 3
          simp at b0 b1 b2 b3
          refine bodyPost_ret (v := .tuple #[.agg #[.int .i64 0, .int .i64 0, .string ⟨#[]⟩, .slice none 0 0], .int .i64 0, .int .i64 (e : Int)]) (by simp [results, Try.results32, go_sem, b0, b1, b2, b3]) rfl ?_
          exact ⟨fun t a q h => (by rw [HRe.out] at h; cases h), fun e2 h => (by rw [HRe.out] at h; cases h; exact ⟨rfl, hb7⟩)⟩
        | ok qa =>
          obtain ⟨q, a1⟩ := qa
          obtain rfl := hok5 q a1 hrp
          have hq := rpS_ok hrp (by omega)
          have hqle := hq.le
          have hqlt := hq.lt
          have hqm := hq.m
          have HQ : Hid (PTOk q) := ⟨by rcases hq.k with h | h | h | h <;> omega, by rcases hq.k with h | h | h | h <;> omega, hq.i0, hq.i1, hq.s, hq.m⟩
          have hal : Below w5.heap.size w5 ((w5.alloc (.cells #[.int .i64 q.kind, .int .i64 q.int, .string q.text, .int .i64 (q.n : Int)] 93)).alloc (.cells #[.int .i64 q.kind, .int .i64 q.int, .string q.text, .int .i64 (q.n : Int)] 93)) := ((Below.refl _ _).alloc (Nat.le_refl _) _).alloc (by simp) _
          have HM6 := hid (HM5.out.kept hal)
          have HB8 := hid ((Box.new w5 #[.int .i64 q.kind, .int .i64 q.int, .string q.text, .int .i64 (q.n : Int)] 93).below ((Below.refl _ _).alloc (Nat.le_refl _) (.cells #[.int .i64 q.kind, .int .i64 q.int, .string q.text, .int .i64 (q.n : Int)] 93)))
          have hnews := news4 (w5.alloc (.cells #[.int .i64 q.kind, .int .i64 q.int, .string q.text, .int .i64 (q.n : Int)] 93)) (.int .i64 q.kind) (.int .i64 q.int) (.string q.text) (.int .i64 (q.n : Int)) 93
          rw [show (w5.alloc (.cells #[.int .i64 q.kind, .int .i64 q.int, .string q.text, .int .i64 (q.n : Int)] 93)).heap.size = w5.heap.size + 1 by simp] at hnews
          have HN := hid hnews
          have hown6 := HM6.out.own
          have HRp := hid hrp
          have hlL : L.length < 12 := by omega
          clear hok5 her5 hrp hb5 b0 b1 b2 b3 g0 g1 g2 g3 hq hal hnews HM
          go_wp2_with (at_builtin; refine wpList_app rfl (.tmp 35) (.tmp 37) 76 93 i0 _ 4 40 KdP rfl (w.heap.size + 1) (.slice p5 L.length c5) L.length (ptCells L) rfl hown6 ⟨w5.heap.size + 1, 0, none⟩ 1 1 [.int .i64 q.kind, .int .i64 q.int, .string q.text, .int .i64 (q.n : Int)] rfl rfl HN.out (oneCell_pt q) (by omega) (by omega) (by simp; omega) ?_)
          intro v6 w6 ho6 hg6 hn6
          obtain ⟨p7, c7, rfl⟩ := ownsRow_slice ho6
          have HM7 := hid (HM6.out.part HQ.out hlL ho6 hg6 hn6)
          have h83 := (HB8.out.kept (hg6.block w5.heap.size (by simp; omega) (fun e => by have h1 := (HM5.out.own.lt _ e.symm).2; omega))).cell 3
          simp at h83
          clear ho6 hg6 hn6 hown6 HM6 HM5 HB8 HN
          have hsum : (a : Int) + ((a1 : Int) - (a : Int)) = (a1 : Int) := by omega
          by_cases hq0 : 0 < q.n
          · have hq0' : (0 : Int) < (q.n : Int) := by omega
            have hps := headS_push (q := L.length) (by omega) hlL hdep HRp.out hq0
            have HT2 : Hid (T = ahead (L ++ [q]) (headS f n (q.n :: st) a1 (L ++ [q]).length)) := by
              unfold Hid
              rw [HT.out, hps.1, ahead_ahead]
              simp
            have hst2 := hps.2
            have hstk := (HM7.out.kept ((Below.refl _ _).alloc (Nat.le_refl _) (.cells #[.int .i64 (q.n : Int)] 3))).stk
            clear hps HT
            go_wp2_with (at_builtin; refine wpList_app rfl (.tmp 45) (.tmp 48) 45 3 i1 _ 1 8 KdI rfl (w.heap.size + 1) (.slice p6 st.length c6) st.length (stC st) rfl hstk ⟨w6.heap.size, 0, none⟩ 1 1 [.int .i64 (q.n : Int)] rfl rfl ?_ ?_ (by omega) (by omega) ?_ ?_)
            · intro j u h
              rw [cell_new, ← h]
              simp
            · intro u hu
              rw [List.mem_singleton.1 hu]
              rfl
            · have := HM7.out.box.lt
              simp
              omega
            · intro v8 w8 ho8 hg8 hn8
              obtain ⟨p9, c9, rfl⟩ := ownsRow_slice ho8
              have HM8 := hid ((HM7.out.kept ((Below.refl _ _).alloc (Nat.le_refl _) (.cells #[.int .i64 (q.n : Int)] 3))).push hq0 hqm hst2 ho8 hg8 hn8)
              clear ho8 hg8 hn8 hstk h83 HM7
              go_wp2
              go_roundw
              case rel => exact ⟨L ++ [q], q.n :: st, a1, by go_num, hqle, HM8.out, HT2.out⟩
              case measure => simp [sliceLen]; omega
          · have hq0' : ¬ (0 : Int) < (q.n : Int) := by omega
            have HT2 : Hid (T = ahead (L ++ [q]) (remU f n st a1 (L.length + 1))) := by
              unfold Hid
              rw [HT.out, headS_leaf (q := L.length) (by omega) hlL hdep HRp.out (by omega), ahead_ahead]
            clear HT
            go_wp2_with fail
            go_loopw [6] (fun y wr2 => ∃ st2, Mach w w.heap.size wr2 (.slice p7 (L.length + 1) c7) y (L ++ [q]) st2 ∧ T = ahead (L ++ [q]) (remU f n st2 a1 (L.length + 1))) (fun y _ => sliceLen y)
            case atStart => exact ⟨st, HM7.out, HT2.out⟩
            case round =>
              obtain ⟨st2, hM2, hT3⟩ := hrel
              clear HM7 HT2 h83
              cases st2 with
              | nil =>
                obtain ⟨p9, c9, hv9⟩ := ownsRow_slice hM2.stk
                simp only [List.length_nil] at hv9
                subst hv9
                have hT4 : T = .ok (L ++ [q], a1, L.length + 1) := by
                  rw [hT3, remU, ahead]
                  simp
                obtain ⟨v, hRv, hfl, hwh⟩ := HK.out _ _ _ hT4
                obtain ⟨gp, cp, hv5, hpts⟩ := hM2.pts (by simp)
                rw [show (L ++ [q]).length = L.length + 1 by simp] at hv5
                cases hv5
                have HC := hid (build_any v wr gp 0 c7 0 (L ++ [q]) [] hwh hpts hM2.ok hM2.len (by rw [hfl]; simp))
                rw [show (L ++ [q]).length = L.length + 1 by simp] at HC
                have HR := hid hRv
                have HM := hid hM2
                clear hT3 hT4 hM2 hpts hRv
                go_wp2_with (go_at_call 58; refine HC.out.mono ?_)
                rintro e w9 ⟨u, rfl, hau, hin, hb9⟩
                have HM9 := hid (HM.out.kept hb9)
                have b0 := HM9.out.box.cell 0
                have b1 := HM9.out.box.cell 1
                have b2 := HM9.out.box.cell 2
                have b3 := HM9.out.box.cell 3
                have g0 := HM9.out.box.frozen 0
                have g1 := HM9.out.box.frozen 1
                have g2 := HM9.out.box.frozen 2
                have g3 := HM9.out.box.frozen 3
                have hl9 := HM9.out.box.lt
                simp at b0 b1 b2 b3
                have hsz9 := hb9.size
                have hlr := HM.out.box.lt
                have HU := hid (And.intro hau hin)
                simp only [VT.val]
                clear hau hin hb9 HC HM
                go_wp2
                have hk9 : But (fun x => x = w.heap.size) w9 ((((w9.setCell ⟨w.heap.size, 0, none⟩ (.int .i64 u.kind)).setCell ⟨w.heap.size, 1, none⟩ (.int .i64 u.int)).setCell ⟨w.heap.size, 2, none⟩ (.string u.text)).setCell ⟨w.heap.size, 3, none⟩ (.slice u.p u.n u.c)) :=
                  ((((But.one _ w.heap.size).setAt 0 _).setAt 1 _).setAt 2 _).setAt 3 _
                have hx9 := setV_box HM9.out.box (.int .i64 u.kind) (.int .i64 u.int) (.string u.text) (.slice u.p u.n u.c)
                have hu9 := HU.out.2.but hk9 (fun b hb _ => by omega)
                have hb9 : Below w.heap.size w _ := HM9.out.below.trans (hk9.below (by omega) (fun x hx => by omega))
                generalize ((((w9.setCell ⟨w.heap.size, 0, none⟩ (.int .i64 u.kind)).setCell ⟨w.heap.size, 1, none⟩ (.int .i64 u.int)).setCell ⟨w.heap.size, 2, none⟩ (.string u.text)).setCell ⟨w.heap.size, 3, none⟩ (.slice u.p u.n u.c)) = wa at hx9 hu9 hb9 ⊢
                clear hk9
                have hb10 := (Below.refl wa.heap.size wa).alloc (Nat.le_refl _) (.cells #[.int .i64 u.kind, .int .i64 u.int, .string u.text, .slice u.p u.n u.c] 24)
                have hx10 := hx9.below hb10
                have hb11 := hb9.trans (hb10.mono hb9.size)
                have hu10 := hu9.below hb10
                generalize wa.alloc (.cells #[.int .i64 u.kind, .int .i64 u.int, .string u.text, .slice u.p u.n u.c] 24) = wb at hx10 hb11 hu10 ⊢
                clear b0 b1 b2 b3
                have b0 := hx10.cell 0
                have b1 := hx10.cell 1
                have b2 := hx10.cell 2
                have b3 := hx10.cell 3
                simp at b0 b1 b2 b3
                refine bodyPost_ret (v := .tuple #[.agg #[.int .i64 u.kind, .int .i64 u.int, .string u.text, .slice u.p u.n u.c], .int .i64 (a1 : Int), .int .i64 0]) (by simp [results, Try.results32, go_sem, b0, b1, b2, b3]) rfl ?_
                refine ⟨fun t a q h => ?_, fun e2 h => (by rw [HR.out] at h; cases h)⟩
                rw [HR.out] at h
                cases h
                exact ⟨u, rfl, HU.out.1, hu10.mono fun b hb _ => (by omega), hb11⟩
              | cons c2 st3 =>
                obtain ⟨g6, cap6, rfl, hc6, hf6, hcap, hgB⟩ := hM2.top
                have hp2 := hM2.pos c2 (List.mem_cons_self ..)
                have hst3 := hM2.dep
                simp only [List.length_cons] at hst3
                have HM := hid hM2
                have HT3 := hid hT3
                clear hM2 hT3
                by_cases hc2 : c2 = 1
                · subst hc2
                  go_wp2
                  go_roundw
                  case rel => exact ⟨st3, HM.out.pop, by rw [HT3.out, remU_one]⟩
                  case measure => simp [sliceLen]
                · obtain ⟨c3, rfl⟩ : ∃ c3, c2 = c3 + 2 := ⟨c2 - 2, by omega⟩
                  have hc3' : (0 : Int) < (c3 : Int) + 1 := by omega
                  have hcc : wr.cell? ⟨g6, st3.length, none⟩ = some (.int .i64 ((c3 : Int) + 2)) := by rw [hc6]; rfl
                  clear hc6
                  go_wp2
                  go_roundw
                  case rel => exact ⟨L ++ [q], (c3 + 1) :: st3, a1, by go_num, hqle, by rw [show (c3 : Int) + 2 - 1 = (c3 : Int) + 1 by omega]; exact HM.out.dec, by rw [HT3.out, remU_more]; simp⟩
                  case measure => simp [sliceLen]; omega
end Go.Proofs.Ytehpdhhlggegdaa

namespace Go.Proofs.Ytehpdhhlggegdaa
open Go.RowKit
set_option maxRecDepth 8000

set_option maxHeartbeats 2000000 in
theorem appendEncoded_any (t : VT) : ∀ (base : Nat) (w : World) (v : Value) (zs : List Int), base ≤ w.heap.size → OwnBy base w v zs → VT.In w (fun b => b < base) t → Val t → zs.length + (encB t).length ≤ 80000 →
    Calls Try.prog 52 #[v, t.val] w fun e w' => EPost base w (zs ++ encB t) e w' := by
  obtain ⟨i0, Kd⟩ := kindB
  induction t with
  | nil => intro base w v zs _ _ _ h; exact h.elim
  | mk k i s n p c f ih =>
    intro base w v zs hB hv hin hval hlen
    obtain ⟨⟨hf, hs24, hn6, hi1, hi2⟩, hvi⟩ := hval
    have hk : 0 ≤ k ∧ k ≤ 3 := by
      simp only [fitB, Bool.and_eq_true, Bool.or_eq_true, decide_eq_true_eq] at hf
      exact ⟨hf.1.1.1.1, hf.1.1.1.2⟩
    obtain ⟨hk0, hk3⟩ := hk
    simp only [VT.val, VT.kind_mk, VT.int_mk, VT.text_mk, VT.p_mk, VT.n_mk, VT.c_mk]
    have hzl : zs.length ≤ 80000 := by omega
    have HI := hid hin
    have hkm : k % 256 = k := by omega
    have ha : Below w.heap.size w (w.alloc (.cells #[.int .i64 k, .int .i64 i, .string s, .slice p n c] 24)) := (Below.refl _ _).alloc (Nat.le_refl _) _
    have hv0 : LayB base w zs v (w.alloc (.cells #[.int .i64 k, .int .i64 i, .string s, .slice p n c] 24)) := ⟨hv.below ha, ha.mono hB, KeepN.below ha⟩
    have hbx := Box.new w #[.int .i64 k, .int .i64 i, .string s, .slice p n c] 24
    have HL0 := hid hv0
    have HBx := hid hbx
    have hrow : (w.alloc (.cells #[.int .i64 k, .int .i64 i, .string s, .slice p n c] 24)).ownsRow base 5 1 v zs.length (zs.map (Value.int .u8)) := hv0.own
    clear hin hf hv ha hv0 hbx
    have E : Hid (zs ++ encB (.mk k i s n p c f) = (zs ++ [k]) ++ (if k = 1 then grpB (foldN i) else if k = 2 then (s.size : Int) :: txtB s else if k = 3 then (n : Int) :: (List.range n).flatMap fun j => encB (f j) else [])) := by
      unfold Hid
      rw [encB_eq, List.append_assoc]; rfl
    have HLen : Hid ((zs ++ encB (.mk k i s n p c f)).length ≤ 80000) := by unfold Hid; rw [List.length_append]; exact hlen
    generalize zs ++ encB (.mk k i s n p c f) = RES at *
    clear hlen
    go_enter Try.func52, Try.ntmps52
    go_wp2_with (at_builtin; refine wpList_app rfl (.tmp 7) (.tmp 11) 62 5 i0 _ 1 1 Kd rfl base v zs.length _ rfl (hrow.alloc _) ⟨w.heap.size + 1, 0, none⟩ 1 1 [.int .u8 k] rfl rfl ?_ (one8 _) (by omega) (by omega) (by simp; omega) ?_)
    · have h := cell_one_new (w.alloc (.cells #[.int .i64 k, .int .i64 i, .string s, .slice p n c] 24)) (.int .u8 k) 5
      rw [show (w.alloc (.cells #[.int .i64 k, .int .i64 i, .string s, .slice p n c] 24)).heap.size = w.heap.size + 1 by simp] at h
      exact h
    · intro v1 w1 ho1 hg1 hn1
      have hL1 := HL0.out.one (by simp; omega) ho1 hg1
      have hB1 : Box w1 w.heap.size #[.int .i64 k, .int .i64 i, .string s, .slice p n c] 24 :=
        (KeepN.grown (HL0.out.own.below ((Below.refl _ _).alloc (Nat.le_refl _) _)) hg1).box (by decide) (HBx.out.below ((Below.refl _ _).alloc (Nat.le_refl _) _))
      have HL1 := hid hL1
      have HB1 := hid hB1
      have x0 := hB1.cell 0
      have x1 := hB1.cell 1
      have x2 := hB1.cell 2
      have x3 := hB1.cell 3
      simp at x0 x1 x2 x3
      have hsw := hL1.bel.size
      have hl1 : (zs ++ [k]).length ≤ 80001 := by simp; omega
      obtain ⟨L, hL⟩ : ∃ L, L = zs ++ [k] := ⟨_, rfl⟩
      rw [← hL] at hL1 HL1 hl1
      have HLe := hid hL
      have hrow1 : w1.ownsRow base 5 1 v1 L.length (L.map (Value.int .u8)) := hL1.own
      clear ho1 hg1 hn1 hL1 hB1 HL0 HBx hrow hL
      rw [← HLe.out] at E
      rcases (by omega : k = 0 ∨ k = 1 ∨ k = 2 ∨ k = 3) with rfl | rfl | rfl | rfl
      · have e : Hid (RES = L) := by unfold Hid; rw [E.out]; simp
        go_wp2
        go_ret
        exact ⟨_, rfl, e.out ▸ HL1.out⟩
      · have e : Hid (RES = L ++ grpB (foldN i)) := by unfold Hid; rw [E.out]; simp
        have HFo := fun W => fold_any i hi1 hi2 W
        have HG := hid (appendGroups_any (foldN i) (foldN_lt hi1 hi2) base w1 v1 L HL1.out.own (by omega) (by omega))
        go_wp2_with fail
        refine (HFo _).mono ?_
        rintro e2 w2 ⟨rfl, hw2⟩
        subst w2
        go_wp2_with fail
        refine HG.out.mono ?_
        intro e3 w3 hP
        obtain ⟨v3, rfl, h3⟩ := hP
        have HF := hid (h3.lift HL1.out.bel HL1.out.keep)
        clear h3 HG
        go_wp2
        go_ret
        exact ⟨_, rfl, e.out ▸ HF.out⟩
      · have e : Hid (RES = (L ++ [(s.size : Int)]) ++ txtB s) := by unfold Hid; rw [E.out]; simp
        have hs' : (s.size : Int) % 256 = (s.size : Int) := by omega
        go_wp2_with (at_builtin; refine wpList_app rfl (.tmp 24) (.tmp 29) 62 5 i0 _ 1 1 Kd rfl base v1 L.length _ rfl (hrow1.alloc _) ⟨w1.heap.size, 0, none⟩ 1 1 [.int .u8 (s.size : Int)] rfl rfl (cell_one_new _ _ _) (one8 _) (by omega) (by omega) (by simp; omega) ?_)
        intro v2 w2 ho2 hg2 hn2
        have hL2 := HL1.out.one (by omega) ho2 hg2
        have hB2 := ((KeepN.below ((Below.refl _ _).alloc (Nat.le_refl _) (.cells #[.int .u8 (s.size : Int)] 5))).trans (KeepN.grown (HL1.out.own.below ((Below.refl _ _).alloc (Nat.le_refl _) _)) hg2)).box (by decide) HB1.out
        have y2 := hB2.cell 2
        simp at y2
        obtain ⟨L2, hL2e⟩ : ∃ L2, L2 = L ++ [(s.size : Int)] := ⟨_, rfl⟩
        rw [← hL2e] at hL2
        have hl2 : L2.length ≤ 80002 := by rw [hL2e]; simp; omega
        have HL2 := hid hL2
        have HLe2 := hid hL2e
        have hrow2 : w2.ownsRow base 5 1 v2 L2.length (L2.map (Value.int .u8)) := hL2.own
        have hs2 := hL2.bel.size
        clear ho2 hg2 hn2 hL2 hB2 hL2e x0 x1 x2 x3 hrow1
        go_wp2_with (at_builtin; go_loud (refine Go.Lib.wpList_append_own_string _ rfl (.tmp 31) (.tmp 33) 62 9 rfl base 5 i0 Kd.ht Try.underlying9 Kd.hi Kd.hz Kd.hsize Kd.hby v2 L2.length _ rfl hrow2 s rfl (by unfold maxLen; omega) (by omega) (by omega) ?_))
        intro v3 w3 ho3 hg3 _
        have HF := hid (HL2.out.text (by omega) ho3 hg3)
        clear ho3 hg3 hrow2
        go_wp2
        go_ret
        exact ⟨_, rfl, by rw [e.out, ← HLe2.out]; exact HF.out⟩
      · have e : Hid (RES = (L ++ [(n : Int)]) ++ (List.range n).flatMap fun j => encB (f j)) := by unfold Hid; rw [E.out]; simp
        have hn' : (n : Int) % 256 = (n : Int) := by omega
        go_wp2_with (at_builtin; refine wpList_app rfl (.tmp 37) (.tmp 42) 62 5 i0 _ 1 1 Kd rfl base v1 L.length _ rfl (hrow1.alloc _) ⟨w1.heap.size, 0, none⟩ 1 1 [.int .u8 (n : Int)] rfl rfl (cell_one_new _ _ _) (one8 _) (by omega) (by omega) (by simp; omega) ?_)
        intro v2 w2 ho2 hg2 hn2
        have hL2 := HL1.out.one (by omega) ho2 hg2
        have hB2 := ((KeepN.below ((Below.refl _ _).alloc (Nat.le_refl _) (.cells #[.int .u8 (n : Int)] 5))).trans (KeepN.grown (HL1.out.own.below ((Below.refl _ _).alloc (Nat.le_refl _) _)) hg2)).box (by decide) HB1.out
        have HB2 := hid hB2
        have y3 := hB2.cell 3
        simp at y3
        have HL2 := hid hL2
        clear ho2 hg2 hn2 hL2 hB2 x0 x1 x2 x3 hrow1
        go_wp2_with fail
        go_loopw [0, 47] (fun v x wr => ∃ j : Nat, j ≤ n ∧ x = .int .i64 j ∧ LayB base w ((L ++ [(n : Int)]) ++ (List.range j).flatMap fun j => encB (f j)) v wr) (fun _ x _ => n - (intOf x).toNat)
        case atStart => exact ⟨0, Nat.zero_le _, rfl, by simpa using HL2.out⟩
        case round =>
          obtain ⟨j, hj, rfl, hLj⟩ := hrel
          have hsj := hLj.bel.size
          by_cases hlt : j < n
          · have hlt' : (j : Int) < (n : Int) := by omega
            obtain ⟨bb, o, hp, hSb, hbl, hat⟩ := HI.out.at_ (show 0 < (VT.mk 3 i s n p c f).n from by simp only [VT.n]; omega)
            simp only [VT.p_mk] at hp
            subst hp
            obtain ⟨d0, d1, d2, d3⟩ := (hat j hlt).kept (hLj.bel.block bb hSb)
            simp only [VT.item_mk] at d0 d1 d2 d3
            obtain ⟨M, hM⟩ : ∃ M, M = (L ++ [(n : Int)]) ++ (List.range j).flatMap fun j => encB (f j) := ⟨_, rfl⟩
            rw [← hM] at hLj
            have hM2 : M ++ encB (f j) = (L ++ [(n : Int)]) ++ (List.range (j + 1)).flatMap fun j => encB (f j) := by rw [hM, List.range_succ, List.flatMap_append]; simp
            have hMl : M.length + (encB (f j)).length ≤ 80000 := by
              have h1 := HLen.out
              rw [e.out] at h1
              have h2 : ∀ a b : Nat, a ≤ b → ((List.range a).flatMap fun j => encB (f j)).length ≤ ((List.range b).flatMap fun j => encB (f j)).length := by
                intro a b hab
                induction hab with
                | refl => exact Nat.le_refl _
                | step _ ih => rw [List.range_succ, List.flatMap_append, List.length_append]; omega
              have h3 := h2 (j + 1) n hlt
              have h4 := congrArg List.length hM2
              simp only [List.length_append, List.length_cons, List.length_nil] at h1 h4
              omega
            have ha : Below wr.heap.size wr (wr.alloc (.cells #[.int .i64 (f j).kind, .int .i64 (f j).int, .string (f j).text, .slice (f j).p (f j).n (f j).c] 24)) := (Below.refl _ _).alloc (Nat.le_refl _) _
            have HC := hid (ih j base (wr.alloc (.cells #[.int .i64 (f j).kind, .int .i64 (f j).int, .string (f j).text, .slice (f j).p (f j).n (f j).c] 24)) u0 M (by simp; omega) (hLj.own.below ha) (((HI.out.sub hlt).kept hLj.bel.size fun b hb _ => hLj.bel.block b hb).below ha) (hvi j hlt) hMl)
            unfold VT.val at HC
            have HLj := hid (hLj.bel.trans (ha.mono (by omega)))
            have HKj := hid (hLj.keep.trans (KeepN.below ha))
            have HM2 := hid hM2
            clear hat hLj hM2 hMl hM ha ih
            go_wp2_with fail
            refine HC.out.mono ?_
            intro e3 w3 hP
            obtain ⟨v3, rfl, h3⟩ := hP
            have HF := hid (h3.lift HLj.out HKj.out)
            clear h3 HC d0 d1 d2 d3
            go_wp2
            go_roundw
            case rel => exact ⟨j + 1, by omega, by go_num, HM2.out ▸ HF.out⟩
            case measure => simp [intOf]; omega
          · have hje : j = n := by omega
            have hlt' : ¬ (j : Int) < (n : Int) := by omega
            rw [hje] at hLj
            have HF := hid hLj
            clear hLj ih
            go_wp2
            go_ret
            exact ⟨_, rfl, by rw [e.out]; exact HF.out⟩
end Go.Proofs.Ytehpdhhlggegdaa
