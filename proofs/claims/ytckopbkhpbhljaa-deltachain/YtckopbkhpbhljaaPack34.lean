import Derived.Test.YtckopbkhpbhljaaPack33
import Derived.Test.YtckopbkhpbhljaaPack15
namespace Go.Proofs.Ytckopbkhpbhljaa
open Go.RowKit
set_option maxRecDepth 8000

set_option maxHeartbeats 1000000 in
theorem order_kinds (k i : Int) (s : ByteArray) (n : Nat) (p : Option Addr) (c : Nat) (k2 i2 : Int) (s2 : ByteArray) (n2 : Nat) (p2 : Option Addr) (c2 : Nat) (w : World) (h : ¬ k = k2) :
    Calls Try.prog 78 #[.agg #[.int .i64 k, .int .i64 i, .string s, .slice p n c], .agg #[.int .i64 k2, .int .i64 i2, .string s2, .slice p2 n2 c2]] w fun e w' => e = .returned (.int .i64 (cmpI k k2)) ∧ Below w.heap.size w w' := by
  have HC := fun W => cmpInt_any k k2 W
  go_enter Try.func78, Try.ntmps78
  go_wp2_with fail
  refine (HC _).mono ?_
  rintro e w1 ⟨rfl, rfl⟩
  go_wp2
  go_ret
  exact ⟨rfl, ((Below.refl _ _).alloc (Nat.le_refl _) _).alloc (by simp) _⟩
set_option maxHeartbeats 1000000 in
theorem order_ints (i : Int) (s : ByteArray) (n : Nat) (p : Option Addr) (c : Nat) (i2 : Int) (s2 : ByteArray) (n2 : Nat) (p2 : Option Addr) (c2 : Nat) (w : World) :
    Calls Try.prog 78 #[.agg #[.int .i64 1, .int .i64 i, .string s, .slice p n c], .agg #[.int .i64 1, .int .i64 i2, .string s2, .slice p2 n2 c2]] w fun e w' => e = .returned (.int .i64 (cmpI i i2)) ∧ Below w.heap.size w w' := by
  have HC := fun W => cmpInt64_any i i2 W
  go_enter Try.func78, Try.ntmps78
  go_wp2_with fail
  refine (HC _).mono ?_
  rintro e w1 ⟨rfl, rfl⟩
  go_wp2
  go_ret
  exact ⟨rfl, ((Below.refl _ _).alloc (Nat.le_refl _) _).alloc (by simp) _⟩
set_option maxHeartbeats 1000000 in
theorem order_texts (i : Int) (s : ByteArray) (n : Nat) (p : Option Addr) (c : Nat) (i2 : Int) (s2 : ByteArray) (n2 : Nat) (p2 : Option Addr) (c2 : Nat) (w : World) :
    Calls Try.prog 78 #[.agg #[.int .i64 2, .int .i64 i, .string s, .slice p n c], .agg #[.int .i64 2, .int .i64 i2, .string s2, .slice p2 n2 c2]] w fun e w' => e = .returned (.int .i64 (cmpS s s2)) ∧ Below w.heap.size w w' := by
  have HC := fun W => cmpStr_any s s2 W
  go_enter Try.func78, Try.ntmps78
  go_wp2_with fail
  refine (HC _).mono ?_
  rintro e w1 ⟨rfl, rfl⟩
  go_wp2
  go_ret
  exact ⟨rfl, ((Below.refl _ _).alloc (Nat.le_refl _) _).alloc (by simp) _⟩
set_option maxHeartbeats 1000000 in
theorem order_lists (k i : Int) (s : ByteArray) (n : Nat) (p : Option Addr) (c : Nat) (i2 : Int) (s2 : ByteArray) (n2 : Nat) (p2 : Option Addr) (c2 : Nat) (w : World) (h1 : ¬ k = 1) (h2 : ¬ k = 2) (r : Int)
    (HC : Hid (∀ W, Below w.heap.size w W → Calls Try.prog 97 #[.slice p n c, .slice p2 n2 c2, .func (Fn.func 78) #[] #[]] W fun e w' => e = .returned (.int .i64 r) ∧ Below W.heap.size W w')) :
    Calls Try.prog 78 #[.agg #[.int .i64 k, .int .i64 i, .string s, .slice p n c], .agg #[.int .i64 k, .int .i64 i2, .string s2, .slice p2 n2 c2]] w fun e w' => e = .returned (.int .i64 r) ∧ Below w.heap.size w w' := by
  go_enter Try.func78, Try.ntmps78
  go_wp2_with fail
  refine (HC.out _ ?_).mono ?_
  · exact ((Below.refl _ _).alloc (Nat.le_refl _) _).alloc (by simp) _
  rintro e w1 ⟨rfl, hb1⟩
  have hbw : Below w.heap.size w w1 := (((Below.refl w.heap.size w).alloc (Nat.le_refl _) _).alloc (by simp) _).trans (hb1.mono (by simp; omega))
  clear HC hb1
  go_wp2
  go_ret
  exact ⟨rfl, hbw⟩

theorem ordV_kinds (k k2 : Int) (i : Int) (s : ByteArray) (n : Nat) (p : Option Addr) (c : Nat) (f : Nat → VT) (i2 : Int) (s2 : ByteArray) (n2 : Nat) (p2 : Option Addr) (c2 : Nat) (f2 : Nat → VT) (h : ¬ k = k2) : ordV (.mk k i s n p c f) (.mk k2 i2 s2 n2 p2 c2 f2) = cmpI k k2 := by
  rw [ordV_eq, if_pos (show k ≠ (VT.mk k2 i2 s2 n2 p2 c2 f2).kind from h)]; rfl
theorem ordV_ints (i : Int) (s : ByteArray) (n : Nat) (p : Option Addr) (c : Nat) (f : Nat → VT) (i2 : Int) (s2 : ByteArray) (n2 : Nat) (p2 : Option Addr) (c2 : Nat) (f2 : Nat → VT) : ordV (.mk 1 i s n p c f) (.mk 1 i2 s2 n2 p2 c2 f2) = cmpI i i2 := by
  rw [ordV_eq, if_neg (show ¬ (1 : Int) ≠ (VT.mk 1 i2 s2 n2 p2 c2 f2).kind from fun h => h rfl), if_pos rfl]; rfl
theorem ordV_texts (i : Int) (s : ByteArray) (n : Nat) (p : Option Addr) (c : Nat) (f : Nat → VT) (i2 : Int) (s2 : ByteArray) (n2 : Nat) (p2 : Option Addr) (c2 : Nat) (f2 : Nat → VT) : ordV (.mk 2 i s n p c f) (.mk 2 i2 s2 n2 p2 c2 f2) = cmpS s s2 := by
  rw [ordV_eq, if_neg (show ¬ (2 : Int) ≠ (VT.mk 2 i2 s2 n2 p2 c2 f2).kind from fun h => h rfl), if_neg (by decide), if_pos rfl]; rfl
theorem ordV_lists (k : Int) (i : Int) (s : ByteArray) (n : Nat) (p : Option Addr) (c : Nat) (f : Nat → VT) (i2 : Int) (s2 : ByteArray) (n2 : Nat) (p2 : Option Addr) (c2 : Nat) (f2 : Nat → VT) (h1 : ¬ k = 1) (h2 : ¬ k = 2) : ordV (.mk k i s n p c f) (.mk k i2 s2 n2 p2 c2 f2) = ordL (fun j => ordV (f j) (f2 j)) n n2 := by
  rw [ordV_eq, if_neg (show ¬ k ≠ (VT.mk k i2 s2 n2 p2 c2 f2).kind from fun h => h rfl), if_neg h1, if_neg h2]; rfl

theorem order_any (t : VT) : OrderC t := by
  induction t with
  | nil => intro u w S R hin; exact hin.elim
  | mk k i s n p c f ih =>
    intro u w S R hin hiu
    obtain ⟨k2, i2, s2, n2, p2, c2, f2, rfl⟩ := hiu.mk_
    by_cases hk : k = k2
    · subst hk
      by_cases h1 : k = 1
      · subst h1
        rw [ordV_ints]
        exact order_ints i s n p c i2 s2 n2 p2 c2 w
      by_cases h2 : k = 2
      · subst h2
        rw [ordV_texts]
        exact order_texts i s n p c i2 s2 n2 p2 c2 w
      rw [ordV_lists k i s n p c f i2 s2 n2 p2 c2 f2 h1 h2]
      exact order_lists k i s n p c i2 s2 n2 p2 c2 w h1 h2 _ fun W hW => cmpFunc_of k i s n p c f ih k i2 s2 n2 p2 c2 f2 W S R (hin.below hW) (hiu.below hW)
    · rw [ordV_kinds k k2 i s n p c f i2 s2 n2 p2 c2 f2 hk]
      exact order_kinds k i s n p c k2 i2 s2 n2 p2 c2 w hk
end Go.Proofs.Ytckopbkhpbhljaa

namespace Go.Proofs.Ytckopbkhpbhljaa
open Go.RowKit
set_option maxRecDepth 8000

set_option maxHeartbeats 1000000 in
theorem orNone_any (t : VT) (w : World) (S : Nat → Prop) (hin : VT.In w S t) :
    Calls Try.prog 79 #[t.val] w fun e w' => e = .returned (cleanT t).val ∧ Below w.heap.size w w' := by
  have HC : Hid (∀ W, Below w.heap.size w W → Calls Try.prog 77 #[t.val] W fun e w' => e = .returned (.int .i64 (chk t 0 0).1) ∧ Below W.heap.size W w') :=
    fun W hW => check_any t W (fun b => b < W.heap.size) ((hin.below hW).mono fun b _ hl => hl) (fun b hb => hb)
  obtain ⟨k, i, s, n, p, c, f, ht⟩ := hin.mk_
  clear hin
  unfold cleanT
  by_cases h : (chk t 0 0).1 = 0
  · rw [if_pos h]
    rw [h] at HC
    simp only [VT.val, ht, VT.kind_mk, VT.int_mk, VT.text_mk, VT.p_mk, VT.n_mk, VT.c_mk] at HC ⊢
    go_enter Try.func79, Try.ntmps79
    go_wp2_with fail
    refine (HC.out _ ?_).mono ?_
    · exact ((Below.refl _ _).alloc (Nat.le_refl _) _).alloc (by simp) _
    rintro e w1 ⟨rfl, hb1⟩
    have hv1 : Box w1 w.heap.size #[.int .i64 k, .int .i64 i, .string s, .slice p n c] 60 := ((Box.new w _ 60).below ((Below.refl _ _).alloc (Nat.le_refl _) _)).below hb1
    have hv2 : Box w1 (w.heap.size + 1) #[.int .i64 0, .int .i64 0, .string ⟨#[]⟩, .slice none 0 0] 60 := by
      have h := Box.new (w.alloc (.cells #[.int .i64 k, .int .i64 i, .string s, .slice p n c] 60)) #[.int .i64 0, .int .i64 0, .string ⟨#[]⟩, .slice none 0 0] 60
      rw [show (w.alloc (.cells #[.int .i64 k, .int .i64 i, .string s, .slice p n c] 60)).heap.size = w.heap.size + 1 by simp] at h
      exact h.below hb1
    have hbw : Below w.heap.size w w1 := (((Below.refl w.heap.size w).alloc (Nat.le_refl _) _).alloc (by simp) _).trans (hb1.mono (by simp; omega))
    have x0 := hv1.cell 0
    have x1 := hv1.cell 1
    have x2 := hv1.cell 2
    have x3 := hv1.cell 3
    have d0 := hv2.cell 0
    have d1 := hv2.cell 1
    have d2 := hv2.cell 2
    have d3 := hv2.cell 3
    have e0 := hv2.frozen 0
    have e1 := hv2.frozen 1
    have e2 := hv2.frozen 2
    have e3 := hv2.frozen 3
    have z2 := hv2.lt
    simp at x0 x1 x2 x3 d0 d1 d2 d3
    clear hb1 hv1 hv2 HC
    go_wp2
    refine bodyPost_ret (v := .agg #[.int .i64 k, .int .i64 i, .string s, .slice p n c]) (by simp [results, Try.results79, go_sem, d0, d1, d2, d3]) rfl ⟨rfl, ?_⟩
    exact (((hbw.setCell (Nat.le_succ _) _).setCell (Nat.le_succ _) _).setCell (Nat.le_succ _) _).setCell (Nat.le_succ _) _
  · rw [if_neg h]
    have h' : ¬ (((chk t 0 0).1 : Int) = 0) := by omega
    generalize (chk t 0 0).1 = r at *
    simp only [VT.val, zeroT, ht, VT.kind_mk, VT.int_mk, VT.text_mk, VT.p_mk, VT.n_mk, VT.c_mk] at HC ⊢
    go_enter Try.func79, Try.ntmps79
    go_wp2_with fail
    refine (HC.out _ ?_).mono ?_
    · exact ((Below.refl _ _).alloc (Nat.le_refl _) _).alloc (by simp) _
    rintro e w1 ⟨rfl, hb1⟩
    have hv1 : Box w1 w.heap.size #[.int .i64 k, .int .i64 i, .string s, .slice p n c] 60 := ((Box.new w _ 60).below ((Below.refl _ _).alloc (Nat.le_refl _) _)).below hb1
    have hv2 : Box w1 (w.heap.size + 1) #[.int .i64 0, .int .i64 0, .string ⟨#[]⟩, .slice none 0 0] 60 := by
      have h := Box.new (w.alloc (.cells #[.int .i64 k, .int .i64 i, .string s, .slice p n c] 60)) #[.int .i64 0, .int .i64 0, .string ⟨#[]⟩, .slice none 0 0] 60
      rw [show (w.alloc (.cells #[.int .i64 k, .int .i64 i, .string s, .slice p n c] 60)).heap.size = w.heap.size + 1 by simp] at h
      exact h.below hb1
    have hbw : Below w.heap.size w w1 := (((Below.refl w.heap.size w).alloc (Nat.le_refl _) _).alloc (by simp) _).trans (hb1.mono (by simp; omega))
    have x0 := hv1.cell 0
    have x1 := hv1.cell 1
    have x2 := hv1.cell 2
    have x3 := hv1.cell 3
    have d0 := hv2.cell 0
    have d1 := hv2.cell 1
    have d2 := hv2.cell 2
    have d3 := hv2.cell 3
    have e0 := hv2.frozen 0
    have e1 := hv2.frozen 1
    have e2 := hv2.frozen 2
    have e3 := hv2.frozen 3
    have z2 := hv2.lt
    simp at x0 x1 x2 x3 d0 d1 d2 d3
    clear hb1 hv1 hv2 HC
    go_wp2
    refine bodyPost_ret (v := .agg #[.int .i64 0, .int .i64 0, .string ⟨#[]⟩, .slice none 0 0]) (by simp [results, Try.results79, go_sem, d0, d1, d2, d3]) rfl ⟨rfl, ?_⟩
    exact (((hbw.setCell (Nat.le_succ _) _).setCell (Nat.le_succ _) _).setCell (Nat.le_succ _) _).setCell (Nat.le_succ _) _
end Go.Proofs.Ytckopbkhpbhljaa
