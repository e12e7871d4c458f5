import Derived.Test.YtikfpoabaaiegaaPack6
import Derived.Defers
import Derived.Recover
namespace Go.Proofs.Ytikfpoabaaiegaa
open Go.RowKit
set_option maxRecDepth 8000
theorem fault_yes (W : World) (v : Value) : (Instr.typeAssert (.iface 236 v) 20 236 true).run Try.prog W = .ok (.tuple #[v, .bool true]) W := by kernel_rfl
set_option maxHeartbeats 2000000 in
theorem asFault_any (a e : Int) (w : World) : Calls Try.prog 159 #[faultV a e] w fun x w' => x = .returned (.agg #[.int .i64 a, .int .i64 e]) ∧ Below w.heap.size w w' := by
  have HT := fault_yes
  unfold faultV
  go_enter Try.func159, Try.ntmps159
  go_wp2
  refine bodyPost_ret (v := .agg #[.int .i64 a, .int .i64 e]) (by simp [results, Try.results159, go_sem]) rfl ⟨rfl, ((Below.refl _ _).alloc (Nat.le_refl _) _).alloc (by simp) _⟩
theorem fault_err (W : World) (a e : Int) : (Instr.field 236 (.agg #[.int .i64 a, .int .i64 e]) 1).run Try.prog W = .ok (.int .i64 e) W := by kernel_rfl
set_option maxHeartbeats 2000000 in
theorem catch_idle (p0 p1 p2 : Addr) (w : World) :
    CallsD Try.prog 158 #[.pointer (some p0), .pointer (some p1), .pointer (some p2)] .returning w fun x u' w' => x = .returned (.tuple #[]) ∧ u' = .returning ∧ w' = w := by
  refine callsD_of_wpS Try.func158 rfl fun c₀ cs hu => ?_
  apply wpS_seq
  apply wpS_region
  simp [wpOpsS, go_sem, recoverD, hu, Try.ntmps158, Exit.thenS]
  simp only [Array.replicate, List.replicate]
  refine wpS_of_wp ?_
  go_wp2_with fail
  cases c₀
  simp_all [bodyPostS, results, Try.results158]
set_option maxHeartbeats 2000000 in
theorem catch_fault (b0 b1 b2 : Nat) (a e : Int) (older : List PanicEntry) (w : World) (x0 x1 x2 x3 y z : Value) (h0 : Box w b0 #[x0, x1, x2, x3] 24) (h1 : Box w b1 #[y] 3) (h2 : Box w b2 #[z] 60) (h01 : b0 ≠ b1) (h02 : b0 ≠ b2) (h12 : b1 ≠ b2) :
    CallsD Try.prog 158 #[.pointer (some ⟨b0, 0, none⟩), .pointer (some ⟨b1, 0, none⟩), .pointer (some ⟨b2, 0, none⟩)] (.panicking ({ v := faultV a e, recovered := false } :: older)) w fun x u' w' =>
      x = .returned (.tuple #[]) ∧ u' = .panicking ({ v := faultV a e, recovered := true } :: older) ∧ Box w' b0 #[.int .i64 0, .int .i64 0, .string ⟨#[]⟩, .slice none 0 0] 24 ∧ Box w' b1 #[.int .i64 0] 3 ∧ Box w' b2 #[.int .i64 e] 60 ∧ But (fun y => y = b0 ∨ y = b1 ∨ y = b2) w w' := by
  have HA := fun W => asFault_any a e W
  have HE := fun W => fault_err W a e
  unfold faultV at *
  refine callsD_of_wpS Try.func158 rfl fun c₀ cs hu => ?_
  apply wpS_seq
  apply wpS_region
  simp [wpOpsS, go_sem, recoverD, hu, Try.ntmps158, Exit.thenS]
  simp only [Array.replicate, List.replicate]
  refine wpS_of_wp ?_
  go_wp2_with fail
  refine (HA _).mono ?_
  rintro x5 w2 ⟨rfl, hb2⟩
  have g0 := h0.below hb2
  have g1 := h1.below hb2
  have g2 := h2.below hb2
  have c0 := g0.cell 0
  have c1 := g0.cell 1
  have c2 := g0.cell 2
  have c3 := g0.cell 3
  have d0 := g1.cell 0
  have e0 := g2.cell 0
  have f0 := g0.frozen 0
  have f1 := g0.frozen 1
  have f2 := g0.frozen 2
  have f3 := g0.frozen 3
  have fd := g1.frozen 0
  have fe := g2.frozen 0
  simp at c0 c1 c2 c3 d0 e0
  have h10 := h01.symm
  have h20 := h02.symm
  have h21 := h12.symm
  go_wp2
  have hk4 : But (fun y => y = b0) w2 ((((w2.setCell ⟨b0, 0, none⟩ (.int .i64 0)).setCell ⟨b0, 1, none⟩ (.int .i64 0)).setCell ⟨b0, 2, none⟩ (.string ⟨#[]⟩)).setCell ⟨b0, 3, none⟩ (.slice none 0 0)) := ((((But.one _ b0).setAt 0 _).setAt 1 _).setAt 2 _).setAt 3 _
  refine ⟨rfl, _, rfl, .tuple #[], by simp [results, Try.results158], rfl, rfl, ?_, ?_, ?_, ?_⟩
  · exact ((setV_box g0 _ _ _ _).kept (Below.heap_setCell _ _ _ _ (show b0 ≠ b1 by omega))).kept (Below.heap_setCell _ _ _ _ (show b0 ≠ b2 by omega))
  · exact ((g1.but hk4 h10).set 0 (.int .i64 0)).kept (Below.heap_setCell _ _ _ _ (show b1 ≠ b2 by omega))
  · exact ((g2.but hk4 h20).kept (Below.heap_setCell _ _ _ _ (show b2 ≠ b1 by omega))).set 0 (.int .i64 e)
  · exact (((((((But.ofBelow hb2).setCell (p := ⟨b0, 0, none⟩) (fun _ => Or.inl rfl) _).setCell (p := ⟨b0, 1, none⟩) (fun _ => Or.inl rfl) _).setCell (p := ⟨b0, 2, none⟩) (fun _ => Or.inl rfl) _).setCell (p := ⟨b0, 3, none⟩) (fun _ => Or.inl rfl) _).setCell (p := ⟨b1, 0, none⟩) (fun _ => Or.inr (Or.inl rfl)) _).setCell (p := ⟨b2, 0, none⟩) (fun _ => Or.inr (Or.inr rfl)) _)
def DecPost (w : World) (r : DR) (x : Ending) (w' : World) : Prop :=
  (∀ t a' q', r = .ok (t, a', q') → ∃ u, x = .returned (.tuple #[u.val, .int .i64 (a' : Int), .int .i64 0]) ∧ VT.Alike t u ∧ VT.In w' (fun b => w.heap.size ≤ b) u ∧ Below w.heap.size w w') ∧ (∀ e : Nat, r = .error e → x = .returned (.tuple #[.agg #[.int .i64 0, .int .i64 0, .string ⟨#[]⟩, .slice none 0 0], .int .i64 0, .int .i64 (e : Int)]) ∧ Below w.heap.size w w')
theorem dec_start (w : World) (A B C D : Array Value) (ta tb tc td : TypeId) :
    Box ((((w.alloc (.cells A ta)).alloc (.cells B tb)).alloc (.cells C tc)).alloc (.cells D td)) w.heap.size A ta ∧
    Box ((((w.alloc (.cells A ta)).alloc (.cells B tb)).alloc (.cells C tc)).alloc (.cells D td)) (w.heap.size + 1) B tb ∧
    Box ((((w.alloc (.cells A ta)).alloc (.cells B tb)).alloc (.cells C tc)).alloc (.cells D td)) (w.heap.size + 1 + 1) C tc ∧
    Box ((((w.alloc (.cells A ta)).alloc (.cells B tb)).alloc (.cells C tc)).alloc (.cells D td)) (w.heap.size + 1 + 1 + 1) D td ∧
    Below w.heap.size w ((((w.alloc (.cells A ta)).alloc (.cells B tb)).alloc (.cells C tc)).alloc (.cells D td)) ∧ ((((w.alloc (.cells A ta)).alloc (.cells B tb)).alloc (.cells C tc)).alloc (.cells D td)).heap.size = w.heap.size + 4 := by
  have z1 : (w.alloc (.cells A ta)).heap.size = w.heap.size + 1 := by simp
  have z2 : ((w.alloc (.cells A ta)).alloc (.cells B tb)).heap.size = w.heap.size + 1 + 1 := by simp
  have z3 : (((w.alloc (.cells A ta)).alloc (.cells B tb)).alloc (.cells C tc)).heap.size = w.heap.size + 1 + 1 + 1 := by simp
  have b1 := Box.new w A ta
  have b2 := Box.new (w.alloc (.cells A ta)) B tb
  have b3 := Box.new ((w.alloc (.cells A ta)).alloc (.cells B tb)) C tc
  have b4 := Box.new (((w.alloc (.cells A ta)).alloc (.cells B tb)).alloc (.cells C tc)) D td
  rw [z1] at b2
  rw [z2] at b3
  rw [z3] at b4
  have l1 := fun (W : World) o => (Below.refl W.heap.size W).alloc (Nat.le_refl _) o
  refine ⟨((b1.below (l1 _ _)).below (l1 _ _)).below (l1 _ _), (b2.below (l1 _ _)).below (l1 _ _), b3.below (l1 _ _), b4, ?_, by simp⟩
  exact ((((Below.refl _ _).alloc (Nat.le_refl _) _).alloc (by omega) _).alloc (by omega) _).alloc (by omega) _
set_option maxHeartbeats 4000000 in
theorem decode_any (p : Option Addr) (n c : Nat) (f : Nat → Int) (S : Nat → Prop) (w : World) (hY : Byts w S p n c f) (hS : ∀ b, S b → b < w.heap.size) :
    Calls Try.prog 150 #[.slice p n c] w fun x w' => DecPost w (decS f n 3 0 0 0) x w' := by
  have hmf : ∀ (fn : Fn) (first cap : Array Value) (w : World), (Instr.makeFunc fn first cap).run Try.prog w = .ok (.func fn first cap) w := fun _ _ _ _ => rfl
  obtain ⟨R, hR⟩ : ∃ R, R = decS f n 3 0 0 0 := ⟨_, rfl⟩
  rw [← hR]
  have HY := hid hY
  clear hY
  go_enter_defers Try.func150, Try.ntmps150
  go_wp2_with fail
  obtain ⟨q0, q1, q2, q3, hbe, hsz⟩ := dec_start w #[.int .i64 0, .int .i64 0, .string ⟨#[]⟩, .slice none 0 0] #[.int .i64 0] #[.int .i64 0] #[.slice p n c, .int .i64 0, .int .i64 0] 24 3 60 239
  generalize hW0 : ((((w.alloc (.cells #[.int .i64 0, .int .i64 0, .string ⟨#[]⟩, .slice none 0 0] 24)).alloc (.cells #[.int .i64 0] 3)).alloc (.cells #[.int .i64 0] 60)).alloc (.cells #[.slice p n c, .int .i64 0, .int .i64 0] 239)) = W0 at *
  have hYW : Byts W0 S p n c f := HY.out.kept hbe.size fun b hb _ => hbe.block b (hS b hb)
  have hC := part_any (w.heap.size + 1 + 1 + 1) p n c f 3 0 rfl W0 S 0 0 hYW (fun h => by have := hS _ h; omega) q3 (by omega) (by omega)
  rw [← hR] at hC
  refine hC.mono ?_
  intro x5 w5 hP5
  have hnd : ∀ b, b ≠ w.heap.size + 1 + 1 + 1 → ¬ b = w.heap.size + 1 + 1 + 1 := fun _ h => h
  cases R with
  | error e =>
    obtain ⟨⟨c5, rfl⟩, hk5⟩ := hP5.2 e rfl
    have g0 := q0.but hk5 (show w.heap.size ≠ w.heap.size + 1 + 1 + 1 by omega)
    have g1 := q1.but hk5 (show w.heap.size + 1 ≠ w.heap.size + 1 + 1 + 1 by omega)
    have g2 := q2.but hk5 (show w.heap.size + 1 + 1 ≠ w.heap.size + 1 + 1 + 1 by omega)
    refine leaves_cons (f := 158) (args := #[.pointer (some ⟨w.heap.size, 0, none⟩), .pointer (some ⟨w.heap.size + 1, 0, none⟩), .pointer (some ⟨w.heap.size + 1 + 1, 0, none⟩)]) (by simp) (by simp [go_sem]) ?_
    refine (catch_fault w.heap.size (w.heap.size + 1) (w.heap.size + 1 + 1) c5 e [] w5 _ _ _ _ _ _ g0 g1 g2 (by omega) (by omega) (by omega)).mono ?_
    rintro x6 u6 w6 ⟨rfl, rfl, r0, r1, r2, hk6⟩
    have c0 := r0.cell 0
    have c1 := r0.cell 1
    have c2 := r0.cell 2
    have c3 := r0.cell 3
    have d0 := r1.cell 0
    have e0 := r2.cell 0
    simp at c0 c1 c2 c3 d0 e0
    simp [Leaves, settle, results, Try.results150, go_sem, c0, c1, c2, c3, d0, e0]
    exact ⟨fun _ _ _ h => (by cases h), fun e2 h => by cases h; exact ⟨rfl, (hbe.trans (hk5.below (by omega) fun k hk => by omega)).trans (hk6.below (by have := hk5.size; omega) fun k hk => by omega)⟩⟩
  | ok tt =>
    obtain ⟨t, a', q'⟩ := tt
    obtain ⟨u, rfl, hau, hiu, hb5, hk5⟩ := hP5.1 t a' q' rfl
    simp only [VT.val]
    have g0 := q0.but hk5 (show w.heap.size ≠ w.heap.size + 1 + 1 + 1 by omega)
    have g1 := q1.but hk5 (show w.heap.size + 1 ≠ w.heap.size + 1 + 1 + 1 by omega)
    have g2 := q2.but hk5 (show w.heap.size + 1 + 1 ≠ w.heap.size + 1 + 1 + 1 by omega)
    have c0 := g0.cell 0
    have c1 := g0.cell 1
    have c2 := g0.cell 2
    have c3 := g0.cell 3
    have f0 := g0.frozen 0
    have f1 := g0.frozen 1
    have f2 := g0.frozen 2
    have f3 := g0.frozen 3
    simp at c0 c1 c2 c3
    go_wp2_with fail
    have r0 := setV_box g0 (.int .i64 u.kind) (.int .i64 u.int) (.string u.text) (.slice u.p u.n u.c)
    have hk6 : But (fun y => y = w.heap.size) w5 ((((w5.setCell ⟨w.heap.size, 0, none⟩ (.int .i64 u.kind)).setCell ⟨w.heap.size, 1, none⟩ (.int .i64 u.int)).setCell ⟨w.heap.size, 2, none⟩ (.string u.text)).setCell ⟨w.heap.size, 3, none⟩ (.slice u.p u.n u.c)) := ((((But.one _ w.heap.size).setAt 0 _).setAt 1 _).setAt 2 _).setAt 3 _
    generalize hW6 : ((((w5.setCell ⟨w.heap.size, 0, none⟩ (.int .i64 u.kind)).setCell ⟨w.heap.size, 1, none⟩ (.int .i64 u.int)).setCell ⟨w.heap.size, 2, none⟩ (.string u.text)).setCell ⟨w.heap.size, 3, none⟩ (.slice u.p u.n u.c)) = w6 at r0 hk6 ⊢
    have r1 := g1.but hk6 (show w.heap.size + 1 ≠ w.heap.size by omega)
    have r2 := g2.but hk6 (show w.heap.size + 1 + 1 ≠ w.heap.size by omega)
    have r3 := hb5.but hk6 (show w.heap.size + 1 + 1 + 1 ≠ w.heap.size by omega)
    have hu6 := hiu.but hk6 (fun b hb _ => by omega)
    have hbe6 : Below w.heap.size w w6 := (hbe.trans (hk5.below (by omega) fun k hk => by omega)).trans (hk6.below (by have := hk5.size; omega) fun k hk => by omega)
    have HX := hid (And.intro r0 (And.intro r1 (And.intro r2 (And.intro hu6 (And.intro hau hbe6)))))
    clear hW6 hW0 c0 c1 c2 c3 f0 f1 f2 f3 hiu hb5 hk5 hk6 g0 g1 g2 hP5 hC q0 q1 q2 q3 hYW hbe hau hu6 hbe6 hR
    have c0 := r0.cell 0
    have c1 := r0.cell 1
    have c2 := r0.cell 2
    have c3 := r0.cell 3
    have f0 := r0.frozen 0
    have f1 := r0.frozen 1
    have f2 := r0.frozen 2
    have f3 := r0.frozen 3
    have d0 := r1.cell 0
    have e0 := r2.cell 0
    have fd := r1.frozen 0
    have fe := r2.frozen 0
    have m1 := r3.cell 1
    simp at c0 c1 c2 c3 d0 e0 m1
    clear r0 r1 r2 r3
    go_region
    all_goals
      go_wp2
      obtain ⟨r0, r1, r2, hu6, hau, hbe6⟩ := HX.out
      have s0 := setV_box r0 (.int .i64 u.kind) (.int .i64 u.int) (.string u.text) (.slice u.p u.n u.c)
      have hk7 : But (fun y => y = w.heap.size) w6 ((((w6.setCell ⟨w.heap.size, 0, none⟩ (.int .i64 u.kind)).setCell ⟨w.heap.size, 1, none⟩ (.int .i64 u.int)).setCell ⟨w.heap.size, 2, none⟩ (.string u.text)).setCell ⟨w.heap.size, 3, none⟩ (.slice u.p u.n u.c)) := ((((But.one _ w.heap.size).setAt 0 _).setAt 1 _).setAt 2 _).setAt 3 _
      have s1 := r1.but hk7 (show w.heap.size + 1 ≠ w.heap.size by omega)
      have s2 := r2.but hk7 (show w.heap.size + 1 + 1 ≠ w.heap.size by omega)
      have hk8 := ((hk7.mono (Y := fun y => y = w.heap.size ∨ y = w.heap.size + 1 ∨ y = w.heap.size + 1 + 1) fun b _ hb => Or.inl hb).setCell (p := ⟨w.heap.size + 1, 0, none⟩) (fun _ => Or.inr (Or.inl rfl)) (.int .i64 (a' : Int))).setCell (p := ⟨w.heap.size + 1 + 1, 0, none⟩) (fun _ => Or.inr (Or.inr rfl)) (.int .i64 0)
      have t0 := (s0.kept (Below.heap_setCell _ ⟨w.heap.size + 1, 0, none⟩ (.int .i64 (a' : Int)) _ (show w.heap.size ≠ w.heap.size + 1 by omega))).kept (Below.heap_setCell _ ⟨w.heap.size + 1 + 1, 0, none⟩ (.int .i64 0) _ (show w.heap.size ≠ w.heap.size + 1 + 1 by omega))
      have t1 := (s1.set 0 (.int .i64 (a' : Int))).kept (Below.heap_setCell _ ⟨w.heap.size + 1 + 1, 0, none⟩ (.int .i64 0) _ (show w.heap.size + 1 ≠ w.heap.size + 1 + 1 by omega))
      have t2 := (s2.kept (Below.heap_setCell _ ⟨w.heap.size + 1, 0, none⟩ (.int .i64 (a' : Int)) _ (show w.heap.size + 1 + 1 ≠ w.heap.size + 1 by omega))).set 0 (.int .i64 0)
      generalize ((((((w6.setCell ⟨w.heap.size, 0, none⟩ (.int .i64 u.kind)).setCell ⟨w.heap.size, 1, none⟩ (.int .i64 u.int)).setCell ⟨w.heap.size, 2, none⟩ (.string u.text)).setCell ⟨w.heap.size, 3, none⟩ (.slice u.p u.n u.c)).setCell ⟨w.heap.size + 1, 0, none⟩ (.int .i64 (a' : Int))).setCell ⟨w.heap.size + 1 + 1, 0, none⟩ (.int .i64 0)) = w7 at hk8 t0 t1 t2 ⊢
      clear c0 c1 c2 c3 d0 e0 m1
      have c0 := t0.cell 0
      have c1 := t0.cell 1
      have c2 := t0.cell 2
      have c3 := t0.cell 3
      have d0 := t1.cell 0
      have e0 := t2.cell 0
      simp at c0 c1 c2 c3 d0 e0
      refine leaves_cons (f := 158) (args := #[.pointer (some ⟨w.heap.size, 0, none⟩), .pointer (some ⟨w.heap.size + 1, 0, none⟩), .pointer (some ⟨w.heap.size + 1 + 1, 0, none⟩)]) (by simp) (by simp [go_sem]) ?_
      refine (catch_idle ⟨w.heap.size, 0, none⟩ ⟨w.heap.size + 1, 0, none⟩ ⟨w.heap.size + 1 + 1, 0, none⟩ _).mono ?_
      rintro x8 u8 w8 ⟨rfl, rfl, rfl⟩
      simp [Leaves, settle, results, Try.results150, go_sem, c0, c1, c2, c3, d0, e0]
      refine ⟨fun t2 a2 q2 h => ?_, fun e2 h => (by cases h)⟩
      cases h
      exact ⟨u, rfl, hau, ((hu6.but hk8 (fun b hb _ => by omega)).mono fun b hb _ => by omega).kept (Nat.le_refl _) (fun _ _ _ => rfl), (hbe6.trans (hk8.below hbe6.size fun k hk => by omega)).drew⟩
end Go.Proofs.Ytikfpoabaaiegaa

namespace Go.Proofs.Ytikfpoabaaiegaa
open Go.RowKit
set_option maxRecDepth 8000

theorem Byts.cells {w : World} {S : Nat → Prop} {ad : Addr} {T : List Int} (h : Byts w S (some ad) T.length T.length (fun j => T.getD j 0)) : ∀ j u, (T.map (Value.int .u8))[j]? = some u → w.cell? (ad.add j) = some u := by
  intro j u hu
  have hj : j < T.length := by
    rcases Nat.lt_or_ge j T.length with h1 | h1
    · exact h1
    · rw [List.getElem?_eq_none (by simpa using h1)] at hu; cases hu
  obtain ⟨b, o, e, _, _, ha⟩ := h.at_ (by omega)
  cases e
  rw [Go.WideShapes.add_plain, ha j hj]
  simp [List.getD_eq_getElem?_getD, List.getElem?_eq_getElem hj] at hu ⊢
  exact hu
theorem conv_byts {w : World} {S : Nat → Prop} {p : Option Addr} {T : List Int} (h : Byts w S p T.length T.length (fun j => T.getD j 0)) : (convert 47 9 (.slice p T.length T.length)).run Try.prog w = .ok (.string (strOf T)) w := by
  cases p with
  | none =>
    have h0 := (h.nil rfl).1
    obtain rfl : T = [] := List.eq_nil_of_length_eq_zero h0
    exact conv_none 0 w
  | some ad => exact conv_at (fun j u hu => h.cells j u hu)
def StrP (s : RS ByteArray) (w : World) (S : Nat → Prop) (rb : Nat) (L : List Int) (e : Int) (x : Ending) (w' : World) : Prop :=
  ∃ (k : ByteArray) (R : List Int) (e' : Int), x = .returned (.string k) ∧ RdS s (fun y => k = y) w S rb L e R e' w' ∧ k.size ≤ 1000
set_option maxHeartbeats 1000000 in
theorem wrHop_any (w : World) (S : Nat → Prop) (rb : Nat) (L : List Int) (e : Int) (h : Rdr w S rb L e) : Calls Try.prog 130 #[.pointer (some ⟨rb, 0, none⟩)] w fun x w' => NumP hopS 9 w S rb L e x w' := by
  have HN := hid (wrNumber_any w S rb L e 9 (by omega) h)
  clear h
  go_enter Try.func130, Try.ntmps130
  go_wp2_with fail
  refine HN.out.mono ?_
  rintro x w1 ⟨r, R, e1, rfl, hs, hm⟩
  have HF := hid (And.intro hs hm)
  clear hs hm HN
  go_wp2
  go_ret
  exact ⟨r, R, e1, rfl, HF.out.1, HF.out.2⟩

set_option maxHeartbeats 1000000 in
theorem wrKey_any (w : World) (S : Nat → Prop) (rb : Nat) (L : List Int) (e : Int) (h : Rdr w S rb L e) : Calls Try.prog 127 #[.pointer (some ⟨rb, 0, none⟩)] w fun x w' => StrP keyS w S rb L e x w' := by
  have HN := hid (wrNumber_any w S rb L e 12 (by omega) h)
  clear h
  go_enter Try.func127, Try.ntmps127
  go_wp2_with fail
  refine HN.out.mono ?_
  rintro x w1 ⟨r, R, e1, rfl, ⟨hr, hd, hk⟩, hm⟩
  have HT := hid (wrTake_any w1 S rb R e1 r (by omega) hd)
  have HR := hid hr
  have HK := hid hk
  clear hr hd hk HN
  go_wp2_with fail
  refine HT.out.mono ?_
  rintro x w2 ⟨p, T, R2, e2, rfl, hby, ⟨hr2, hd2, hk2⟩, hT0⟩
  have hcv := conv_byts hby
  have hTl : T.length ≤ 12 := by
    by_cases h0 : e1 = 0
    · subst h0
      cases hq : takeS r R with
      | error k =>
        obtain ⟨a1, a2⟩ := hr2.bad rfl k hq
        rw [hT0 a2]
        simp
      | ok z =>
        obtain ⟨y, U⟩ := z
        obtain ⟨a1, a2, a3⟩ := hr2.good rfl y U hq
        unfold takeS at hq
        split at hq
        · cases hq
          rw [a3]
          simp
          omega
        · cases hq
    · have h1 := hr2.stay h0
      rw [hT0 (by rw [h1]; exact h0)]
      simp
  have HF : Hid (RdS keyS (fun y => strOf T = y) w S rb L e R2 e2 w2) := by
    refine ⟨HR.out.bind (fun y hy h1 => ?_) hr2.stay, hd2, HK.out.trans hk2⟩
    subst hy
    exact hr2.map fun _ y hy => by rw [hy]
  have hsz := strOf_size T
  clear hby hr2 hd2 hk2 hT0 HT HR HK
  go_wp2
  go_ret
  exact ⟨strOf T, R2, e2, rfl, HF.out, by rw [hsz]; omega⟩

def UnitP (s : RS Unit) (w : World) (S : Nat → Prop) (rb : Nat) (L : List Int) (e : Int) (x : Ending) (w' : World) : Prop :=
  ∃ (R : List Int) (e' : Int), x = .returned (.tuple #[]) ∧ RdS s (fun _ => True) w S rb L e R e' w'
set_option maxHeartbeats 1000000 in
theorem wrFirst_any (w : World) (S : Nat → Prop) (rb : Nat) (L : List Int) (e : Int) (z : Nat) (h : Rdr w S rb L e) : Calls Try.prog 120 #[.pointer (some ⟨rb, 0, none⟩), .int .u8 z] w fun x w' => UnitP (firstS z) w S rb L e x w' := by
  have HT := hid (wrTake_any w S rb L e 1 (by omega) h)
  clear h
  go_enter Try.func120, Try.ntmps120
  go_wp2_with fail
  refine HT.out.mono ?_
  rintro x w1 ⟨p, T, R, e1, rfl, hby, ⟨hr, hd, hk⟩, hT0⟩
  by_cases h1 : e1 = 0
  · have hTl : ∃ x, T = [x] := by
      by_cases h0 : e = 0
      · subst h0
        cases hq : takeS 1 L with
        | error k =>
          obtain ⟨a1, a2⟩ := hr.bad rfl k hq
          exact absurd h1 a2
        | ok z =>
          obtain ⟨y, U⟩ := z
          obtain ⟨a1, a2, a3⟩ := hr.good rfl y U hq
          unfold takeS at hq
          split at hq
          · cases hq
            cases L with
            | nil => simp at *
            | cons q L2 => exact ⟨q, by rw [a3]; simp⟩
          · cases hq
      · exact absurd (hr.stay h0) (by rw [h1]; exact fun h => h0 h.symm)
    obtain ⟨q, rfl⟩ := hTl
    obtain ⟨hf1, hf2⟩ := hby.fit 0 (by simp)
    simp at hf1 hf2
    obtain ⟨C, rfl⟩ := Int.eq_ofNat_of_zero_le hf1
    obtain ⟨b0, o0, hp, _, _, hat⟩ := hby.at_ (by simp)
    subst hp
    have y0 := hat 0 (by simp)
    simp at y0
    simp only [List.length_singleton]
    subst h1
    have HR := hid hr
    have HD := hid hd
    have HK := hid hk
    have HF := hid (wrFail_any w1 S rb R 0 41 hd)
    clear hby hr hd hk hT0 HT hat hf1 hf2
    by_cases hq : C = z
    · have hq' : ((C : Int) == (z : Int)) = true := by rw [hq]; simp
      have HFn : Hid (RdS (firstS z) (fun _ => True) w S rb L e R 0 w1) := by
        refine ⟨HR.out.bind (fun y hy _ => ?_) (fun _ => rfl), HD.out, HK.out⟩
        subst hy
        rw [if_pos (by simp [hq])]
        exact RR.ret fun _ => trivial
      clear hq HR HD HK HF
      go_wp2
      exact bodyPost_end (results_none rfl _ _ _) rfl ⟨R, 0, rfl, HFn.out⟩
    · have hq' : ((C : Int) == (z : Int)) = false := by simp; omega
      have HQ := hid hq
      clear hq
      go_wp2_with fail
      refine HF.out.mono ?_
      rintro x w2 ⟨rfl, hr2, hk2⟩
      have HFn : Hid (RdS (firstS z) (fun _ => True) w S rb L e R 41 w2) := by
        refine ⟨HR.out.bind (fun y hy _ => ?_) (fun h => absurd rfl h), by simpa using hr2, HK.out.trans hk2⟩
        subst hy
        rw [if_neg (by simp; have := HQ.out; omega)]
        exact RR.err (k := 41) rfl rfl (by decide)
      clear hr2 hk2 HF HR HD HK
      go_wp2
      exact bodyPost_end (results_none rfl _ _ _) rfl ⟨R, 41, rfl, HFn.out⟩
  · have h2 := hT0 h1
    subst h2
    have HFn : Hid (RdS (firstS z) (fun _ => True) w S rb L e R e1 w1) := ⟨hr.bind (fun y _ h => absurd h h1) (fun _ => rfl), hd, hk⟩
    clear hby hr hd hk hT0 HT
    go_wp2
    exact bodyPost_end (results_none rfl _ _ _) rfl ⟨R, e1, rfl, HFn.out⟩
end Go.Proofs.Ytikfpoabaaiegaa

namespace Go.Proofs.Ytikfpoabaaiegaa
open Go.RowKit
set_option maxRecDepth 8000

theorem bits_or_u32_nat (a b : Nat) (ha : a < 4294967296) (hb : b < 4294967296) : bits .or .u32 (a : Int) (b : Int) = ((a ||| b : Nat) : Int) := by
  have hx : a ||| b < 2 ^ 32 := Nat.or_lt_two_pow (by omega) (by omega)
  have h1 : (BitVec.ofInt 32 (a : Int)).toNat = a := by
    rw [BitVec.ofInt_natCast, BitVec.toNat_ofNat]; exact Nat.mod_eq_of_lt (by omega)
  have h2 : (BitVec.ofInt 32 (b : Int)).toNat = b := by
    rw [BitVec.ofInt_natCast, BitVec.toNat_ofNat]; exact Nat.mod_eq_of_lt (by omega)
  show IntKind.u32.wrap ((BitVec.ofInt 32 (a : Int) ||| BitVec.ofInt 32 (b : Int)).toNat : Int) = _
  rw [BitVec.toNat_or, h1, h2, IntKind.wrap_u32]
  omega
def wordK (T : List Int) (k : Nat) : Nat := if k = 0 then 0 else if k = 1 then (T.getD 0 0).toNat else if k = 2 then (T.getD 0 0).toNat + (T.getD 1 0).toNat * 256 else if k = 3 then (T.getD 0 0).toNat + (T.getD 1 0).toNat * 256 + (T.getD 2 0).toNat * 65536 else wordN T
theorem or_plus8 {u x k : Nat} (h : u < 2 ^ k) : u ||| x * 2 ^ k = u + x * 2 ^ k := by
  have h1 := Nat.shiftLeft_add_eq_or_of_lt h x
  rw [Nat.shiftLeft_eq] at h1
  rw [Nat.or_comm, ← h1, Nat.add_comm]
def WordP (w : World) (S : Nat → Prop) (rb : Nat) (L : List Int) (e : Int) (x : Ending) (w' : World) : Prop :=
  ∃ (r : Nat) (R : List Int) (e' : Int), x = .returned (.int .u32 (r : Int)) ∧ RdS wordS (fun y => r = y) w S rb L e R e' w' ∧ r < 4294967296
set_option maxHeartbeats 2000000 in
theorem wrWord_any (w : World) (S : Nat → Prop) (rb : Nat) (L : List Int) (e : Int) (h : Rdr w S rb L e) : Calls Try.prog 121 #[.pointer (some ⟨rb, 0, none⟩)] w fun x w' => WordP w S rb L e x w' := by
  have HT := hid (wrTake_any w S rb L e 4 (by omega) h)
  clear h
  go_enter Try.func121, Try.ntmps121
  go_wp2_with fail
  refine HT.out.mono ?_
  rintro x w1 ⟨p, T, R, e1, rfl, hby, ⟨hr, hd, hk⟩, hT0⟩
  have hT4 : e1 = 0 → T.length = 4 := fun h1 => by
    by_cases h0 : e = 0
    · subst h0
      cases hq : takeS 4 L with
      | error k =>
        obtain ⟨a1, a2⟩ := hr.bad rfl k hq
        exact absurd h1 a2
      | ok z =>
        obtain ⟨y, U⟩ := z
        obtain ⟨a1, a2, a3⟩ := hr.good rfl y U hq
        unfold takeS at hq
        split at hq
        · cases hq
          rw [a3]
          simp
          omega
        · cases hq
    · exact absurd (hr.stay h0) (by rw [h1]; exact fun h => h0 h.symm)
  by_cases h1 : e1 = 0
  · have hl := hT4 h1
    subst h1
    have HFn : Hid (RdS wordS (fun y => wordN T = y) w S rb L e R 0 w1) := ⟨hr.map fun _ y hy => by rw [hy], hd, hk⟩
    have HBy := hid hby
    clear hby hr hd hk hT0 HT hT4
    have h0 := HBy.out.fit 0 (by omega)
    have h1 := HBy.out.fit 1 (by omega)
    have h2 := HBy.out.fit 2 (by omega)
    have h3 := HBy.out.fit 3 (by omega)
    have hwb : ∀ k, k ≤ 4 → wordK T k < 2 ^ (8 * k) := by
      intro k hk
      rcases (by omega : k = 0 ∨ k = 1 ∨ k = 2 ∨ k = 3 ∨ k = 4) with rfl | rfl | rfl | rfl | rfl <;> simp [wordK, wordN, -List.getD_eq_getElem?_getD] <;> omega
    have hstep : ∀ k, k < 4 → wordK T (k + 1) = wordK T k + (T.getD k 0).toNat * 2 ^ (8 * k) := by
      intro k hk
      rcases (by omega : k = 0 ∨ k = 1 ∨ k = 2 ∨ k = 3) with rfl | rfl | rfl | rfl <;> simp [wordK, wordN, -List.getD_eq_getElem?_getD]
    have hw4 : wordK T 4 = wordN T := by simp [wordK]
    have HW := hid (And.intro hwb (And.intro hstep hw4))
    clear h0 h1 h2 h3 hwb hstep hw4
    rw [hl]
    have hp : ∃ b o, p = some ⟨b, o, none⟩ := by
      obtain ⟨b, o, h, _⟩ := HBy.out.at_ (by omega)
      exact ⟨b, o, h⟩
    obtain ⟨b0, o0, rfl⟩ := hp
    go_wp2_with fail
    go_loopw [3, 9] (fun y x wr => ∃ k : Nat, k ≤ 4 ∧ y = .int .u32 (wordK T k : Int) ∧ x = .int .i64 (k : Int) ∧ wr = w1) (fun _ x _ => 4 - (intOf x).toNat)
    case atStart => exact ⟨0, by omega, rfl, rfl, rfl⟩
    case round =>
      obtain ⟨k, hk, rfl, rfl, rfl⟩ := hrel
      by_cases hlt : k < 4
      · have hlt' : (k : Int) < 4 := by omega
        obtain ⟨b1, o1, he, _, _, hat⟩ := HBy.out.at_ (by omega)
        cases he
        have y0 := hat k (by omega)
        obtain ⟨hf1, hf2⟩ := HBy.out.fit k (by omega)
        obtain ⟨C, hC⟩ := Int.eq_ofNat_of_zero_le hf1
        have hst := HW.out.2.1 k hlt
        have hwk := HW.out.1 k hk
        have hw1 := HW.out.1 (k + 1) (by omega)
        rw [hC] at y0 hf2 hst
        simp only [Int.toNat_natCast] at hst
        have h32 : (2 : Nat) ^ (8 * (k + 1)) ≤ 2 ^ 32 := Nat.pow_le_pow_right (by omega) (by omega)
        have hw2 := Nat.lt_of_lt_of_le hw1 h32
        have hor := bits_or_u32_nat (wordK T k) (C * 2 ^ (8 * k)) (by omega) (by omega)
        rw [or_plus8 hwk, ← hst] at hor
        have HV : C * 2 ^ (8 * k) < 4294967296 := by omega
        obtain ⟨V, hV⟩ : ∃ V, V = C * 2 ^ (8 * k) := ⟨_, rfl⟩
        rw [← hV] at hor HV
        have HVe := hid hV
        have hC256 : C < 256 := by omega
        obtain ⟨A, hA⟩ : ∃ A, A = wordK T k := ⟨_, rfl⟩
        obtain ⟨B, hB⟩ : ∃ B, B = wordK T (k + 1) := ⟨_, rfl⟩
        rw [← hA, ← hB] at hor
        rw [← hA]
        have HB := hid hB
        clear hat hf1 hf2 hC hst hwk hw1 h32 hw2 hV hA hB
        by_cases hk0 : k = 0
        · subst hk0
          have e0 : (C : Int) = (V : Int) := by have := HVe.out; omega
          have HC := hid e0
          obtain rfl : C = V := by omega
          clear e0
          simp only [Nat.add_zero] at y0
          go_wp2
          go_roundw
          case rel => exact ⟨0 + 1, by omega, by rw [← HB.out, ← hor], rfl, trivial⟩
          case measure => simp [intOf]
        · have e0 : IntKind.u32.wrap ((C : Int) * 2 ^ (8 * k)) = (V : Int) := by
            have h2 : (C : Int) * 2 ^ (8 * k) = (V : Int) := by rw [HVe.out]; simp
            rw [h2, IntKind.wrap_u32]; omega
          go_wp2
          go_roundw
          case rel =>
            have e2 : (C : Int) * 2 ^ (8 * k) % 4294967296 = (V : Int) := by rw [← e0, IntKind.wrap_u32]
            exact ⟨k + 1, by omega, by rw [← HB.out, ← hor, e2], by go_num, trivial⟩
          case measure => simp [intOf]; omega
      · obtain rfl : k = 4 := by omega
        have HL := hid (HW.out.1 4 (by omega))
        go_wp2
        go_ret
        exact ⟨wordK T 4, R, 0, rfl, by rw [HW.out.2.2]; exact HFn.out, HL.out⟩
  · have h2 := hT0 h1
    subst h2
    have HFn : Hid (RdS wordS (fun y => (0 : Nat) = y) w S rb L e R e1 w1) := ⟨hr.bind (fun y _ h => absurd h h1) (fun _ => rfl), hd, hk⟩
    clear hby hr hd hk hT0 HT hT4
    go_wp2_with fail
    go_loopw [3, 9] (fun y x wr => y = .int .u32 0 ∧ x = .int .i64 0 ∧ wr = w1) (fun _ x _ => 4 - (intOf x).toNat)
    case atStart => exact ⟨rfl, rfl, rfl⟩
    case round =>
      obtain ⟨rfl, rfl, rfl⟩ := hrel
      go_wp2
      go_ret
      exact ⟨0, R, e1, rfl, HFn.out, by omega⟩

def ValP (w : World) (S : Nat → Prop) (rb : Nat) (L : List Int) (e : Int) (x : Ending) (w' : World) : Prop :=
  ∃ (t : VT) (R : List Int) (e' : Int), x = .returned t.val ∧ VT.In w' (fun b => w.heap.size ≤ b) t ∧ RdS valS (fun y => VT.Alike y t) w S rb L e R e' w'
theorem in_zero (w : World) (S : Nat → Prop) : VT.In w S mkN := by
  refine ⟨⟨by decide, by decide, by decide, by decide, by decide, by decide, by decide, by decide, fun _ => ⟨rfl, rfl⟩⟩, fun h => absurd h (by decide), fun j h => absurd h (Nat.not_lt_zero j)⟩
theorem dec_len {L : List Int} {t : VT} {a q : Nat} (h : decS (fun j => L.getD j 0) L.length 3 0 0 0 = .ok (t, a, q)) : a ≤ L.length := decS_le _ _ _ _ _ _ _ h
theorem RdS.tail {α : Type} {s : RS α} {ok : α → Prop} {w w2 w3 : World} {S : Nat → Prop} {rb b : Nat} {L R : List Int} {e e' : Int} (h : RdS s ok w S rb L e R e' w2) (hk : But (fun y => y = b) w2 w3) (hb : w.heap.size ≤ b) (hr : rb < w.heap.size) (hS : ∀ b, S b → b < w.heap.size) : RdS s ok w S rb L e R e' w3 :=
  ⟨h.rr, h.rd.but hk (by omega) (fun c hc _ e => by have := hS c hc; omega), ⟨hk.os.trans h.kp.os, hk.tape.trans h.kp.tape, hk.output.trans h.kp.output, Nat.le_trans h.kp.size hk.size, fun j hj hx => (hk.block j (Nat.lt_of_lt_of_le hj h.kp.size) (by omega)).trans (h.kp.block j hj hx)⟩⟩
theorem But.set4 (w : World) (b : Nat) (x0 x1 x2 x3 : Value) : But (fun y => y = b) w ((((w.setCell ⟨b, 0, none⟩ x0).setCell ⟨b, 1, none⟩ x1).setCell ⟨b, 2, none⟩ x2).setCell ⟨b, 3, none⟩ x3) := ((((But.one w b).setAt 0 x0).setAt 1 x1).setAt 2 x2).setAt 3 x3
set_option maxHeartbeats 2000000 in
theorem wrValue_any (w : World) (S : Nat → Prop) (rb : Nat) (L : List Int) (e : Int) (hS : ∀ b, S b → b < w.heap.size) (h : Rdr w S rb L e) : Calls Try.prog 128 #[.pointer (some ⟨rb, 0, none⟩)] w fun x w' => ValP w S rb L e x w' := by
  have hrl := h.lt
  have hne2 : rb ≠ w.heap.size := by omega
  have hb0 : Below w.heap.size w (w.alloc (.cells #[.int .i64 0, .int .i64 0, .string ⟨#[]⟩, .slice none 0 0] 24)) := (Below.refl _ _).alloc (Nat.le_refl _) _
  have hv0 := Box.new w #[.int .i64 0, .int .i64 0, .string ⟨#[]⟩, .slice none 0 0] 24
  obtain ⟨⟨p, hx, hy⟩, ho⟩ := h.below hb0
  have x0 := hx.cell 0
  have x1 := hx.cell 1
  simp only [List.getElem?_toArray] at x0 x1
  have HH := hid (h.below hb0)
  have HY := hid hy
  have HV0 := hid hv0
  have HB0 := hid hb0
  have HS := hid hS
  have hsz0 : (w.alloc (.cells #[.int .i64 0, .int .i64 0, .string ⟨#[]⟩, .slice none 0 0] 24)).heap.size = w.heap.size + 1 := by simp
  have HSz := hid hsz0
  by_cases he : e = 0
  · subst he
    have HD := hid (decode_any p L.length L.length (fun j => L.getD j 0) S _ HY.out (fun b hb => by rw [hsz0]; have := hS b hb; omega))
    clear h hx hy hb0 hv0 hsz0 hS
    go_enter Try.func128, Try.ntmps128
    go_wp2_with fail
    refine HD.out.mono ?_
    rintro x w1 ⟨hok, hbad⟩
    cases hR : decS (fun j => L.getD j 0) L.length 3 0 0 0 with
    | error k =>
      obtain ⟨rfl, hb1⟩ := hbad k hR
      have hk0 : k ≠ 0 := by
        rcases dec_known _ _ _ _ _ hR with rfl | rfl | rfl | rfl <;> decide
      have hk0' : ((k : Int) == 0) = false := by simp; exact hk0
      have hv1 := HV0.out.below hb1
      have HF : Hid (∀ W, Below w1.heap.size w1 W → Calls Try.prog 117 #[.pointer (some ⟨rb, 0, none⟩), .int .i64 k] W fun x w' => FailPost W S rb L 0 k x w') := fun W hW => wrFail_any W S rb L 0 k ((HH.out.below hb1).below hW)
      have HB := hid (HB0.out.trans (hb1.mono (by have := HSz.out; omega)))
      have HV1 := hid hv1
      have HR := hid hR
      clear hok hbad HD hb1 hR x0 x1 hv1
      go_wp2_with fail
      refine (HF.out _ ?_).mono ?_
      · exact (Below.refl _ _).alloc (Nat.le_refl _) _
      rintro x w2 ⟨rfl, hr2, hk2⟩
      have hwl := HB.out.size
      have hk3 : But (fun y => y = rb) w1 w2 := (But.ofBelow ((Below.refl _ _).alloc (Nat.le_refl _) _)).trans hk2
      have hv2 := HV1.out.but hk3 (by omega)
      have c0 := hv2.cell 0
      have c1 := hv2.cell 1
      have c2 := hv2.cell 2
      have c3 := hv2.cell 3
      have f0 := hv2.frozen 0
      have f1 := hv2.frozen 1
      have f2 := hv2.frozen 2
      have f3 := hv2.frozen 3
      simp at c0 c1 c2 c3
      have zz := setV_box hv2 (.int .i64 0) (.int .i64 0) (.string ⟨#[]⟩) (.slice none 0 0)
      have r0 := zz.cell 0
      have r1 := zz.cell 1
      have r2 := zz.cell 2
      have r3 := zz.cell 3
      simp only [List.getElem?_toArray, List.getElem?_cons_zero, List.getElem?_cons_succ] at r0 r1 r2 r3
      have HR0 := hid (And.intro r0 (And.intro r1 (And.intro r2 r3)))
      clear r0 r1 r2 r3 zz
      have HFn : Hid (RdS valS (fun y => VT.Alike y mkN) w S rb L 0 L (k : Int) w2) := ⟨RR.err (k := k) (by unfold valS; rw [HR.out]) rfl hk0, by simpa using hr2, (But.ofBelow HB.out).trans hk3⟩
      clear hr2 hk2 hk3 HF HR HB hk0 hk0' hv2
      go_wp2
      obtain ⟨r0, r1, r2, r3⟩ := HR0.out
      refine bodyPost_ret (v := mkN.val) (by simp [results, Try.results128, go_sem, VT.val, mkN, VT.kind, VT.int, VT.text, VT.p, VT.n, VT.c, r0, r1, r2, r3]) rfl ⟨mkN, L, (k : Int), rfl, in_zero _ _, HFn.out.tail (But.set4 _ w.heap.size _ _ _ _) (Nat.le_refl _) hrl HS.out⟩
    | ok z =>
      obtain ⟨t, a, q⟩ := z
      obtain ⟨u, rfl, hal, hin, hb1⟩ := hok t a q hR
      have hle := dec_len hR
      have hnn := HY.out.nn
      have hv1 := HV0.out.below hb1
      have hb2 : Below w1.heap.size w1 (w1.alloc (.cells #[.int .i64 u.kind, .int .i64 u.int, .string u.text, .slice u.p u.n u.c] 24)) := (Below.refl _ _).alloc (Nat.le_refl _) _
      have hu1 := Box.new w1 #[.int .i64 u.kind, .int .i64 u.int, .string u.text, .slice u.p u.n u.c] 24
      have HT := hid (wrTake_any _ S rb L 0 a (by omega) ((HH.out.below hb1).below hb2))
      have HB := hid (HB0.out.trans (hb1.mono (by have := HSz.out; omega)))
      have HB2 := hid hb2
      have HV1 := hid (hv1.below hb2)
      have HU1 := hid hu1
      have HR := hid hR
      have HI := hid (hin.below hb2)
      have HA := hid hal
      clear hok hbad HD hb1 hR x0 x1 hin hal hb2 hu1 hv1
      unfold VT.val
      go_wp2_with fail
      refine HT.out.mono ?_
      rintro x w2 ⟨p2, T, R2, e2, rfl, hby, ⟨hr2, hd2, hk2⟩, hT0⟩
      obtain ⟨a1, a2, a3⟩ := hr2.good rfl (L.take a) (L.drop a) (by unfold takeS; rw [if_pos hle])
      subst a1 a2
      have hwl := HB.out.size
      have hv2 := HV1.out.but hk2 (by omega)
      have hu2 := HU1.out.but hk2 (by omega)
      have c0 := hv2.cell 0
      have c1 := hv2.cell 1
      have c2 := hv2.cell 2
      have c3 := hv2.cell 3
      have f0 := hv2.frozen 0
      have f1 := hv2.frozen 1
      have f2 := hv2.frozen 2
      have f3 := hv2.frozen 3
      simp at c0 c1 c2 c3
      have d0 := hu2.cell 0
      have d1 := hu2.cell 1
      have d2 := hu2.cell 2
      have d3 := hu2.cell 3
      simp at d0 d1 d2 d3
      have zz := setV_box hv2 (.int .i64 u.kind) (.int .i64 u.int) (.string u.text) (.slice u.p u.n u.c)
      have r0 := zz.cell 0
      have r1 := zz.cell 1
      have r2 := zz.cell 2
      have r3 := zz.cell 3
      simp only [List.getElem?_toArray, List.getElem?_cons_zero, List.getElem?_cons_succ] at r0 r1 r2 r3
      have HR0 := hid (And.intro r0 (And.intro r1 (And.intro r2 r3)))
      clear r0 r1 r2 r3 zz
      have hbk : But (fun y => y = rb) w w2 := ((But.ofBelow HB.out).trans (But.ofBelow HB2.out)).trans hk2
      have HFn : Hid (VT.In w2 (fun b => w.heap.size + 1 ≤ b) u ∧ RdS valS (fun y => VT.Alike y u) w S rb L 0 (L.drop a) 0 w2) := by
        refine ⟨(HI.out.but hk2 (fun b hb _ e => by have := HSz.out; omega)).mono (fun b hb _ => by have := HSz.out; omega), ⟨fun h => absurd rfl h, fun _ y T2 hy => ?_, fun _ k hk => ?_⟩, hd2, hbk⟩
        · unfold valS at hy
          rw [HR.out] at hy
          cases hy
          exact ⟨rfl, rfl, HA.out⟩
        · unfold valS at hk
          rw [HR.out] at hk
          cases hk
      clear hby hr2 hd2 hk2 hT0 HT HR HB HI HA a3 hbk hv2 hu2 HV1 HU1 HB2
      go_wp2
      obtain ⟨r0, r1, r2, r3⟩ := HR0.out
      refine bodyPost_ret (v := u.val) (by simp [results, Try.results128, go_sem, VT.val, r0, r1, r2, r3]) rfl ⟨u, L.drop a, 0, rfl, (HFn.out.1.but (But.set4 _ w.heap.size _ _ _ _) (fun b hb _ e => by omega)).mono (fun b hb _ => by omega), HFn.out.2.tail (But.set4 _ w.heap.size _ _ _ _) (Nat.le_refl _) hrl HS.out⟩
  · have he' : (e == 0) = false := by simpa using he
    have HF : Hid (RdS valS (fun y => VT.Alike y mkN) w S rb L e L e (w.alloc (.cells #[.int .i64 0, .int .i64 0, .string ⟨#[]⟩, .slice none 0 0] 24))) := ⟨⟨fun _ => rfl, fun h => absurd h he, fun h => absurd h he⟩, HH.out, But.ofBelow HB0.out⟩
    clear h hx hy hb0 hv0
    go_enter Try.func128, Try.ntmps128
    go_wp2
    exact bodyPost_ret (v := mkN.val) (by simp [results, Try.results128, go_sem, VT.val, mkN, VT.kind, VT.int, VT.text, VT.p, VT.n, VT.c]) rfl ⟨mkN, L, e, rfl, in_zero _ _, HF.out⟩
end Go.Proofs.Ytikfpoabaaiegaa

namespace Go.Proofs.Ytikfpoabaaiegaa
open Go.RowKit
set_option maxRecDepth 8000

structure RdX {α : Type} (s : RS α) (ok : α → Prop) (X : Nat → Prop) (w : World) (S : Nat → Prop) (rb : Nat) (L : List Int) (e : Int) (R : List Int) (e' : Int) (w' : World) : Prop where
  rr : RR s ok L e R e'
  rd : Rdr w' S rb R e'
  kp : But X w w'
def Isl {α : Type} (Al : α → α → Prop) (l : LT α) (ys : List α) : Prop := l.n = ys.length ∧ ∀ i u, ys[i]? = some u → Al u (l.item i)
def ListP {α : Type} (E : El α) (Al : α → α → Prop) (s : RS (List α)) (X : Nat → Prop) (w : World) (S : Nat → Prop) (rb : Nat) (L : List Int) (e : Int) (x : Ending) (w' : World) : Prop :=
  ∃ (l : LT α) (R : List Int) (e' : Int), x = .returned (.slice l.p l.n l.c) ∧ LT.In E w' (fun b => w.heap.size ≤ b) l ∧ RdX s (Isl Al l) X w S rb L e R e' w'
def ItemP {α σ : Type} (E : El α) (enc : α → Value) (Al : α → α → Prop) (item : σ → RS α) (nx : σ → α → σ) (Inv : World → σ → Prop) (X : Nat → Prop) (S : Nat → Prop) (rb : Nat) (s : σ) (R : List Int) (W : World) (x : Ending) (W' : World) : Prop :=
  ∃ (u : α) (R' : List Int) (e' : Int), x = .returned (enc u) ∧ E.In W' (fun b => W.heap.size ≤ b) u ∧ RdX (item s) (fun y => Al y u ∧ Inv W' (nx s y)) X W S rb R 0 R' e' W'
theorem iterS_succ {α σ : Type} {item : σ → RS α} {nx : σ → α → σ} {m : Nat} {s0 : σ} {R0 : List Int} {ys : List α} {s : σ} {R R' : List Int} {y : α} (h : iterS item nx m s0 R0 = .ok ((ys, s), R)) (hy : item s R = .ok (y, R')) : iterS item nx (m + 1) s0 R0 = .ok ((ys ++ [y], nx s y), R') := by
  simp [iterS, bindS, h, hy, retS]
theorem iterS_fail {α σ : Type} {item : σ → RS α} {nx : σ → α → σ} {m : Nat} {s0 : σ} {R0 : List Int} {ys : List α} {s : σ} {R : List Int} {k : Nat} (h : iterS item nx m s0 R0 = .ok ((ys, s), R)) (hy : item s R = .error k) : ∀ {n : Nat}, m < n → iterS item nx n s0 R0 = .error k := by
  intro n
  induction n with
  | zero => intro h2; omega
  | succ n ih =>
    intro h2
    by_cases hmn : m = n
    · subst hmn
      simp [iterS, bindS, h, hy]
    · have := ih (by omega)
      simp [iterS, bindS, this]
structure LInv {α σ : Type} (E : El α) (Al : α → α → Prop) (item : σ → RS α) (nx : σ → α → σ) (Inv : World → σ → Prop) (X : Nat → Prop) (w : World) (S : Nat → Prop) (rb : Nat) (R0 : List Int) (s0 : σ) (j : Nat) (v : Value) (wr : World) (s : σ) (g : Nat → α) (R : List Int) (ys : List α) : Prop where
  own : OwnL E w.heap.size wr v j g
  rd : Rdr wr S rb R 0
  inv : Inv wr s
  kp : But X w wr
  it : iterS item nx j s0 R0 = .ok ((ys, s), R)
  len : ys.length = j
  al : ∀ i u, ys[i]? = some u → Al u (g i)
theorem LInv.start {α σ : Type} {E : El α} {Al : α → α → Prop} {item : σ → RS α} {nx : σ → α → σ} {Inv : World → σ → Prop} {X : Nat → Prop} {w w1 w2 : World} {S : Nat → Prop} {rb : Nat} {R0 : List Int} {s0 : σ} {v : Value} (g : Nat → α) (ho : w2.ownsRow w.heap.size E.ty E.size v 0 []) (hg : w1.grownBy w2 none) (hrd : Rdr w1 S rb R0 0) (hk : But X w w1) (hinv : Inv w2 s0) : LInv E Al item nx Inv X w S rb R0 s0 0 v w2 s0 g R0 [] := by
  have hb : Below w1.heap.size w1 w2 := ⟨hg.os, hg.tape, hg.output, hg.size, fun k hk => hg.block k hk (by simp)⟩
  exact ⟨⟨ho, fun j h => absurd h (by omega)⟩, hrd.below hb, hinv, hk.trans (But.ofBelow hb), rfl, rfl, fun i u h => by simp at h⟩
theorem LInv.step {α σ : Type} {E : El α} {Al : α → α → Prop} {item : σ → RS α} {nx : σ → α → σ} {Inv : World → σ → Prop} {X : Nat → Prop} {w wr W1 w3 : World} {S : Nat → Prop} {rb : Nat} {R0 R R' : List Int} {s0 s : σ} {j : Nat} {v v3 : Value} {g : Nat → α} {ys : List α} {u : α} {o : Obj}
    (h : LInv E Al item nx Inv X w S rb R0 s0 j v wr s g R ys) (hu : E.In W1 (fun b => wr.heap.size ≤ b) u) (hR : RdX (item s) (fun y => Al y u ∧ Inv W1 (nx s y)) X wr S rb R 0 R' 0 W1)
    (hX : ∀ k, X k → k < w.heap.size) (hS : ∀ b, S b → b < w.heap.size) (hr : rb < w.heap.size) (hInv : ∀ W W' s, Inv W s → w.heap.size ≤ W.heap.size → W.heap.size ≤ W'.heap.size → (∀ k, k < w.heap.size → k ≠ rb → W'.heap[k]? = W.heap[k]?) → Inv W' s)
    (ho : w3.ownsRow w.heap.size E.ty E.size v3 (j + 1) (((List.range j).flatMap fun j => E.cells (g j)) ++ E.cells u)) (hg : (W1.alloc o).grownBy w3 v.ownBlock) (hn : Near (W1.alloc o) v v3) :
    ∃ s2 ys2, LInv E Al item nx Inv X w S rb R0 s0 (j + 1) v3 w3 s2 (fun i => if i < j then g i else u) R' ys2 := by
  obtain ⟨hrr, hrd, hk⟩ := hR
  cases hq : item s R with
  | error k => exact absurd rfl (hrr.bad rfl k hq).2
  | ok z =>
    obtain ⟨y, T⟩ := z
    obtain ⟨rfl, _, hAl, hI⟩ := hrr.good rfl y T hq
    have hws : w.heap.size ≤ wr.heap.size := h.kp.size
    have hw1 : wr.heap.size ≤ W1.heap.size := hk.size
    have hal : Below W1.heap.size W1 (W1.alloc o) := (Below.refl _ _).alloc (Nat.le_refl _) o
    have hgs := hg.size
    have hza : (W1.alloc o).heap.size = W1.heap.size + 1 := by simp
    have hkb : ∀ k, k < w.heap.size → w3.heap[k]? = W1.heap[k]? := fun k hk2 => by
      rw [hg.block k (by omega) (fun e => by have := (h.own.own.lt k e.symm).1; omega)]
      exact hal.block k (by omega)
    have hown : OwnL E w.heap.size W1 v j g := h.own.keep hw1 fun k hk2 hl => hk.block k hl (fun hx => by have := hX k hx; omega)
    have hown2 : OwnL E w.heap.size (W1.alloc o) v j g := hown.keep (by omega) fun k _ hl => hal.block k hl
    have hu2 : E.In (W1.alloc o) (fun b => w.heap.size ≤ b ∧ v.ownBlock ≠ some b) u := by
      refine E.kept (E.mono hu fun b hb _ => ⟨by omega, fun e => ?_⟩) hal.size (fun b _ hl => hal.block b hl)
      have := (h.own.own.lt b e).2
      omega
    refine ⟨nx s y, ys ++ [y], hown2.push hu2 ho hg hn, ?_, hInv W1 w3 _ hI (by omega) (by omega) (fun k hk _ => hkb k hk), ?_, iterS_succ h.it hq, by simp [h.len], fun i x hx => ?_⟩
    · obtain ⟨⟨p, hx, hy⟩, hout⟩ := hrd
      exact ⟨⟨p, hx.kept (hkb rb hr), hy.kept (by omega) fun b hb _ => hkb b (hS b hb)⟩, hout⟩
    · exact ⟨hg.os.trans (hk.os.trans h.kp.os), hg.tape.trans (hk.tape.trans h.kp.tape), hg.output.trans (hk.output.trans h.kp.output), by omega, fun k hk2 hx => (hkb k hk2).trans ((hk.block k (by omega) hx).trans (h.kp.block k hk2 hx))⟩
    · by_cases hij : i < j
      · rw [if_pos hij]
        rw [List.getElem?_append_left (by rw [h.len]; exact hij)] at hx
        exact h.al i x hx
      · rw [if_neg hij]
        have hi : i = j := by
          have : i < (ys ++ [y]).length := by
            rcases Nat.lt_or_ge i (ys ++ [y]).length with h1 | h1
            · exact h1
            · rw [List.getElem?_eq_none h1] at hx; cases hx
          simp [h.len] at this
          omega
        subst hi
        rw [List.getElem?_append_right (by rw [h.len]; exact Nat.le_refl _), h.len] at hx
        simp at hx
        subst hx
        exact hAl
theorem LInv.fail {α σ : Type} {E : El α} {Al : α → α → Prop} {item : σ → RS α} {nx : σ → α → σ} {Inv : World → σ → Prop} {X : Nat → Prop} {w wr W1 w3 : World} {S : Nat → Prop} {rb bound m : Nat} {L R0 R R' : List Int} {e e' : Int} {s0 s : σ} {j : Nat} {v : Value} {g : Nat → α} {ys : List α} {u : α}
    (h : LInv E Al item nx Inv X w S rb R0 s0 j v wr s g R ys) (hR : RdX (item s) (fun y => Al y u ∧ Inv W1 (nx s y)) X wr S rb R 0 R' e' W1) (he : e' ≠ 0) (hj : j < m)
    (hnum : RR (numS bound) (fun y => m = y) L e R0 0) (hk3 : But X w w3) (hrd : Rdr w3 S rb R' e') (hz : LT.In E w3 (fun b => w.heap.size ≤ b) ⟨none, 0, 0, g⟩) :
    ListP E Al (listS bound item nx s0) X w S rb L e (.returned (.slice none 0 0)) w3 := by
  refine ⟨⟨none, 0, 0, g⟩, R', e', rfl, hz, ⟨hnum.bind (fun y hy _ => ?_) (fun h => absurd rfl h), hrd, hk3⟩⟩
  subst hy
  cases hq : item s R with
  | ok z =>
    obtain ⟨y, T⟩ := z
    exact absurd (hR.rr.good rfl y T hq).2.1 he
  | error k =>
    obtain ⟨a1, a2⟩ := hR.rr.bad rfl k hq
    have := iterS_fail h.it hq hj
    exact RR.err (k := k) (by simp [bindS, this]) a1 (fun h0 => a2 (by rw [a1, h0]; rfl))
theorem LInv.done {α σ : Type} {E : El α} {Al : α → α → Prop} {item : σ → RS α} {nx : σ → α → σ} {Inv : World → σ → Prop} {X : Nat → Prop} {w wr : World} {S : Nat → Prop} {rb bound m : Nat} {L R0 R : List Int} {e : Int} {s0 s : σ} {v : Value} {g : Nat → α} {ys : List α}
    (h : LInv E Al item nx Inv X w S rb R0 s0 m v wr s g R ys) (hm : m ≤ 140737488355328) (hnum : RR (numS bound) (fun y => m = y) L e R0 0) :
    ListP E Al (listS bound item nx s0) X w S rb L e (.returned v) wr := by
  obtain ⟨p, c, rfl, hin⟩ := h.own.in_ hm
  refine ⟨⟨p, m, c, g⟩, R, 0, rfl, hin, ⟨hnum.bind (fun y hy _ => ?_) (fun h => absurd rfl h), h.rd, h.kp⟩⟩
  subst hy
  have e1 : bindS (iterS item nx m s0) (fun y => retS y.1) R0 = .ok (ys, R) := by simp [bindS, h.it, retS]
  refine ⟨fun h => absurd rfl h, fun _ y T hy => ?_, fun _ k hk => by rw [e1] at hk; cases hk⟩
  rw [e1] at hy
  cases hy
  exact ⟨rfl, rfl, h.len.symm, h.al⟩
theorem list_none {α σ : Type} {E : El α} {Al : α → α → Prop} {item : σ → RS α} {nx : σ → α → σ} {X : Nat → Prop} {w w3 : World} {S : Nat → Prop} {rb bound m : Nat} {L R0 : List Int} {e e1 : Int} {s0 : σ} {p : Option Addr} {g : Nat → α} (he : e1 ≠ 0)
    (hnum : RR (numS bound) (fun y => m = y) L e R0 e1) (hrd : Rdr w3 S rb R0 e1) (hk : But X w w3) : ListP E Al (listS bound item nx s0) X w S rb L e (.returned (.slice p 0 0)) w3 :=
  ⟨⟨p, 0, 0, g⟩, R0, e1, rfl, LT.In.none_ E w3 _ p 0 g (Nat.zero_le _) (fun _ => rfl), hnum.bind (fun _ _ h => absurd h he) (fun _ => rfl), hrd, hk⟩
end Go.Proofs.Ytikfpoabaaiegaa

namespace Go.Proofs.Ytikfpoabaaiegaa
open Go.RowKit
set_option maxRecDepth 8000
theorem kindI : ∃ i, Kind 25 3 i (.int .i64 0) 1 8 := by
  obtain ⟨i0, hi, hz0, hz1, hz2⟩ := info_parts (show (Try.prog.info? 3).map (fun i => (i.zero, i.size, i.bytes)) = some (some (.int .i64 0), 1, 8) by kernel_rfl)
  exact ⟨i0, Try.underlying25, hi, hz0, hz1, hz2, rfl, by decide⟩
set_option maxHeartbeats 4000000 in
theorem rlInt {σ : Type} (Al : Int → Int → Prop) (item : σ → RS (Int)) (nx : σ → Int → σ) (Inv : World → σ → Prop) (X : Nat → Prop) (s0 : σ) (w : World) (S : Nat → Prop) (rb : Nat) (L : List Int) (e : Int) (bound : Nat) (hb : bound ≤ 1000) (hXr : X rb) (hX : ∀ k, X k → k < w.heap.size) (hS : ∀ b, S b → b < w.heap.size) (h0 : Inv w s0)
    (hInv : ∀ W W' s, Inv W s → w.heap.size ≤ W.heap.size → W.heap.size ≤ W'.heap.size → (∀ k, k < w.heap.size → k ≠ rb → W'.heap[k]? = W.heap[k]?) → Inv W' s)
    (HIt : ∀ W s R, But X w W → Rdr W S rb R 0 → Inv W s → Calls Try.prog 130 #[.pointer (some ⟨rb, 0, none⟩)] W fun x W' => ItemP elInt (fun u => .int .i64 u) Al item nx Inv X S rb s R W x W')
    (h : Rdr w S rb L e) : Calls Try.prog 129 #[.pointer (some ⟨rb, 0, none⟩), .int .i64 bound, .func (.func 130) #[] #[]] w fun x w' => ListP elInt Al (listS bound item nx s0) X w S rb L e x w' := by
  obtain ⟨i0, Kd⟩ := kindI
  have HN := hid (wrNumber_any w S rb L e bound (by omega) h)
  have hrl := h.lt
  have HIt := hid HIt
  have HInv := hid hInv
  have H0 := hid h0
  have HX := hid hX
  have HS := hid hS
  have HKd := hid Kd
  clear h hInv h0 hX hS Kd
  go_enter Try.func129, Try.ntmps129
  go_wp2_with fail
  refine HN.out.mono ?_
  rintro x w1 ⟨m, R0, e1, rfl, ⟨hrr, hrd, hkp⟩, hm, hm0⟩
  have HRR := hid hrr
  have HRd := hid hrd
  have hkx : But X w w1 := hkp.mono fun k _ e => by subst e; exact hXr
  have HKp := hid hkp
  have HKx := hid hkx
  have hws := hkp.size
  clear hrr hrd hkp hkx HN
  by_cases he1 : e1 = 0
  · subst he1
    clear hm0
    go_wp2_with (at_make; refine wpList_make_own _ rfl _ _ 25 rfl w.heap.size 3 i0 (.int .i64 0) 1 HKd.out.ht HKd.out.hi HKd.out.hz HKd.out.hsize _ _ _ m rfl rfl rfl (by rw [HKd.out.hby]; omega) (by unfold maxLen; omega) (by omega) ?_)
    intro w2 ho2 hg2
    have hb2 : Below w1.heap.size w1 w2 := ⟨hg2.os, hg2.tape, hg2.output, hg2.size, fun k hk => hg2.block k hk (by simp)⟩
    have hst : ∀ g, LInv elInt Al item nx Inv X w S rb R0 s0 0 (.slice (some ⟨w1.heap.size, 0, none⟩) 0 m) w2 s0 g R0 [] := fun g => LInv.start g ho2 hg2 HRd.out HKx.out (HInv.out w w2 s0 H0.out (Nat.le_refl _) (by have := hg2.size; omega) (fun k hk hne => (hb2.block k (by omega)).trans (HKp.out.block k hk hne)))
    have HSt := hid hst
    clear ho2 hg2 hb2 hst
    go_wp2_with fail
    go_loopw [8, 15] (fun v x wr => ∃ (j : Nat) (s : σ) (g : Nat → Int) (R : List Int) (ys : List (Int)), j ≤ m ∧ x = .int .i64 (j : Int) ∧ LInv elInt Al item nx Inv X w S rb R0 s0 j v wr s g R ys) (fun _ x _ => m - (intOf x).toNat)
    case atStart => exact ⟨0, s0, fun _ => 0, R0, [], Nat.zero_le _, rfl, HSt.out _⟩
    case round =>
      obtain ⟨j, s, g, R, ys, hj, rfl, hL⟩ := hrel
      have HL := hid hL
      clear hL
      by_cases hlt : j < m
      · have hlt' : (j : Int) < (m : Int) := by omega
        have HC := hid (HIt.out wr s R HL.out.kp HL.out.rd HL.out.inv)
        go_wp2_with fail
        refine HC.out.mono ?_
        rintro x w4 ⟨u, R', e', rfl, hu, hR⟩
        have hsz : w.heap.size ≤ w4.heap.size := Nat.le_trans HL.out.kp.size hR.kp.size
        have hrow : w4.ownsRow w.heap.size 3 1 u8 j ((List.range j).flatMap fun j => (elInt).cells (g j)) := ownsRow_keep HL.out.own.own fun k hk hl => hR.kp.block k hl (fun hx => by have := HX.out k hx; have := (HL.out.own.own.lt k hk).1; omega)
        have HU := hid hu
        have HR := hid hR
        have HRow := hid hrow
        clear hu hR hrow HC
        go_wp2_with (at_builtin; refine wpList_app rfl (.tmp 17) (.tmp 21) 25 3 i0 _ 1 8 HKd.out rfl w.heap.size u8 j _ rfl (HRow.out.alloc _) ⟨w4.heap.size, 0, none⟩ 1 1 ([.int .i64 u]) rfl rfl (cell_one_new _ _ _) ((elInt).one u) (by omega) (by omega) (by simp; omega) ?_)
        intro v3 w3 ho3 hg3 hn3
        by_cases he' : e' = 0
        · subst he'
          obtain ⟨s2, ys2, hL2⟩ := HL.out.step HU.out HR.out HX.out HS.out hrl HInv.out ho3 hg3 hn3
          obtain ⟨⟨p2, hx2, hy2⟩, hout⟩ := id hL2.rd
          have y1 := hx2.cell 1
          simp at y1
          have HL2 := hid hL2
          clear ho3 hg3 hn3 hL2 hx2 hy2 HRow HU HR
          go_wp2
          go_roundw
          case rel => exact ⟨j + 1, s2, _, R', ys2, by omega, by go_num, HL2.out⟩
          case measure => simp [intOf]; omega
        · have hlt4 : ∀ k, u8.ownBlock = some k → w.heap.size ≤ k := fun k hk => (HRow.out.lt k hk).1
          have hal : Below w4.heap.size w4 (w4.alloc (.cells #[.int .i64 u] 3)) := (Below.refl _ _).alloc (Nat.le_refl _) _
          have hkb : ∀ k, k < w.heap.size → w3.heap[k]? = w4.heap[k]? := fun k hk => (hg3.block k (by have := hal.size; omega) (fun e => by have := hlt4 k e.symm; omega)).trans (hal.block k (by omega))
          have hs3 : w4.heap.size ≤ w3.heap.size := Nat.le_trans hal.size hg3.size
          have hrd3 : Rdr w3 S rb R' e' := by
            obtain ⟨⟨p, hx, hy⟩, hout⟩ := HR.out.rd
            exact ⟨⟨p, hx.kept (hkb rb hrl), hy.kept hs3 fun b hb _ => hkb b (HS.out b hb)⟩, hout⟩
          have hk3 : But X w w3 := ⟨hg3.os.trans (HR.out.kp.os.trans HL.out.kp.os), hg3.tape.trans (HR.out.kp.tape.trans HL.out.kp.tape), hg3.output.trans (HR.out.kp.output.trans HL.out.kp.output), by omega, fun k hk hx => (hkb k hk).trans ((HR.out.kp.block k (Nat.lt_of_lt_of_le hk HL.out.kp.size) hx).trans (HL.out.kp.block k hk hx))⟩
          have HF := hid (LInv.fail HL.out HR.out he' hlt HRR.out hk3 hrd3 (LT.In.none_ _ _ _ none 0 g (Nat.zero_le _) (fun _ => rfl)))
          obtain ⟨⟨p2, hx2, hy2⟩, hout⟩ := id hrd3
          have y1 := hx2.cell 1
          simp at y1
          have he2 : (e' == 0) = false := by simpa using he'
          clear ho3 hg3 hn3 hx2 hy2 HRow HU HR hlt4 hal hkb hs3 hrd3 hk3
          go_wp2
          go_ret
          exact HF.out
      · obtain rfl : j = m := by omega
        have hlt' : ¬ (j : Int) < (j : Int) := by omega
        have HF := hid (HL.out.done (by omega) HRR.out)
        go_wp2
        go_ret
        exact HF.out
  · obtain rfl := hm0 he1
    go_wp2_with (at_make; refine wpList_make_own _ rfl _ _ 25 rfl w.heap.size 3 i0 (.int .i64 0) 1 HKd.out.ht HKd.out.hi HKd.out.hz HKd.out.hsize _ _ _ 0 rfl rfl rfl (by omega) (by unfold maxLen; omega) (by omega) ?_)
    intro w2 ho2 hg2
    have hb2 : Below w1.heap.size w1 w2 := ⟨hg2.os, hg2.tape, hg2.output, hg2.size, fun k hk => hg2.block k hk (by simp)⟩
    have HF := hid (list_none (E := elInt) (Al := Al) (item := item) (nx := nx) (s0 := s0) (p := some ⟨w1.heap.size, 0, none⟩) (g := fun _ => 0) he1 HRR.out (HRd.out.below hb2) (HKx.out.trans (But.ofBelow hb2)))
    clear ho2 hg2 hb2
    go_wp2_with fail
    go_loopw [8, 15] (fun v x wr => v = .slice (some ⟨w1.heap.size, 0, none⟩) 0 0 ∧ x = .int .i64 0 ∧ wr = w2) (fun _ x _ => 0 - (intOf x).toNat)
    case atStart => exact ⟨rfl, rfl, rfl⟩
    case round =>
      obtain ⟨rfl, rfl, rfl⟩ := hrel
      go_wp2
      go_ret
      exact HF.out
end Go.Proofs.Ytikfpoabaaiegaa
