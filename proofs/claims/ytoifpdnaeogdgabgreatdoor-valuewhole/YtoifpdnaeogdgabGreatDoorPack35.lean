import Derived.Test.YtoifpdnaeogdgabGreatDoorPack2
import Derived.Test.YtoifpdnaeogdgabGreatDoorPack29
namespace Go.Proofs.YtoifpdnaeogdgabGreatDoor
open Go.RowKit
set_option maxRecDepth 8000

/-- the order of two lists, by the order of their items -/
def ordL (g : Nat → Int) (n n2 : Nat) : Int := if firstN g (min n n2) ≠ 0 then firstN g (min n n2) else cmpI n n2
def OrderC (t : VT) : Prop := ∀ (u : VT) (w : World) (S R : Nat → Prop), VT.In w S t → VT.In w R u → Calls Tryz.prog 41 #[t.val, u.val] w fun e w' => e = .returned (.int .i64 (ordV t u)) ∧ Below w.heap.size w w'

set_option maxHeartbeats 2000000 in
theorem cmpFunc_of (k i : Int) (s : ByteArray) (n : Nat) (p : Option Addr) (c : Nat) (f : Nat → VT) (ih : ∀ j, OrderC (f j)) (k2 i2 : Int) (s2 : ByteArray) (n2 : Nat) (p2 : Option Addr) (c2 : Nat) (f2 : Nat → VT) (w : World) (S R : Nat → Prop)
    (hin : VT.In w S (.mk k i s n p c f)) (hiu : VT.In w R (.mk k2 i2 s2 n2 p2 c2 f2)) :
    Calls Tryz.prog 82 #[.slice p n c, .slice p2 n2 c2, .func (Fn.func 41) #[] #[]] w fun e w' => e = .returned (.int .i64 (ordL (fun j => ordV (f j) (f2 j)) n n2)) ∧ Below w.heap.size w w' := by
  have hnn := hin.fit.nn
  have hnn2 := hiu.fit.nn
  simp only [VT.n_mk] at hnn hnn2
  have HI : Hid (VT.In w S (.mk k i s n p c f) ∧ VT.In w R (.mk k2 i2 s2 n2 p2 c2 f2)) := ⟨hin, hiu⟩
  clear hin hiu
  obtain ⟨G, HG⟩ : ∃ G : Nat → Int, Hid (G = fun j => ordV (f j) (f2 j)) := ⟨_, rfl⟩
  rw [← HG.out]
  go_enter Tryz.func82, Tryz.ntmps82
  go_wp2_with fail
  go_loopw [13] (fun x wr => ∃ j : Nat, j ≤ n ∧ j ≤ n2 ∧ x = .int .i64 j ∧ Hid (firstN G j = 0) ∧ Below w.heap.size w wr) (fun x _ => n - (intOf x).toNat)
  case atStart => exact ⟨0, by omega, by omega, rfl, rfl, Below.refl _ _⟩
  case round =>
    obtain ⟨j, hj, hj2, rfl, HZ, hbel⟩ := hrel
    by_cases hlt : j < n
    · have hlt' : (j : Int) < (n : Int) := by omega
      obtain ⟨b1, o1, hp, _, hbl, hat⟩ := HI.out.1.at_ (show 0 < (VT.mk k i s n p c f).n from by simp only [VT.n]; omega)
      simp only [VT.p_mk] at hp
      subst hp
      obtain ⟨a0, a1, a2, a3⟩ := (hat j hlt).kept (hbel.block b1 hbl)
      simp only [VT.item_mk] at a0 a1 a2 a3
      have hl1 : b1 < wr.heap.size := Nat.lt_of_lt_of_le hbl hbel.size
      clear hat
      by_cases hlt2 : j < n2
      · have hlt2' : ¬ (n2 : Int) ≤ (j : Int) := by omega
        have hlt3 : (j : Int) < (n2 : Int) := by omega
        obtain ⟨b2, o2, hp2, _, hbl2, hat2⟩ := HI.out.2.at_ (show 0 < (VT.mk k2 i2 s2 n2 p2 c2 f2).n from by simp only [VT.n]; omega)
        simp only [VT.p_mk] at hp2
        subst hp2
        obtain ⟨e0, e1, e2, e3⟩ := (hat2 j hlt2).kept (hbel.block b2 hbl2)
        simp only [VT.item_mk] at e0 e1 e2 e3
        have hl2 : b2 < wr.heap.size := Nat.lt_of_lt_of_le hbl2 hbel.size
        have hs1 : Hid (firstN G (j + 1) = G j) := firstN_succ HZ.out
        have HG1 : Hid (G j = ordV (f j) (f2 j)) := by rw [HG.out]; rfl
        have HC : Hid (∀ W, Below wr.heap.size wr W → Calls Tryz.prog 41 #[(f j).val, (f2 j).val] W fun e w' => e = .returned (.int .i64 (G j)) ∧ Below W.heap.size W w') := by
          intro W hW
          rw [HG1.out]
          exact ih j (f2 j) W (fun b => S b ∧ b < w.heap.size) (fun b => R b ∧ b < w.heap.size) ((((HI.out.1.sub hlt).mono fun b hb hl => ⟨hb, hl⟩).kept hbel.size (fun b hb _ => hbel.block b hb.2)).below hW) ((((HI.out.2.sub hlt2).mono fun b hb hl => ⟨hb, hl⟩).kept hbel.size (fun b hb _ => hbel.block b hb.2)).below hW)
        obtain ⟨xk, xi, xs, xn, xp, xc, xf, hx⟩ := (HI.out.1.sub hlt).mk_
        obtain ⟨yk, yi, ys, yn, yp, yc, yf, hy⟩ := (HI.out.2.sub hlt2).mk_
        simp only [VT.item_mk] at hx hy
        unfold VT.val at HC
        rw [hx] at a0 a1 a2 a3 HC
        rw [hy] at e0 e1 e2 e3 HC
        simp only [VT.kind_mk, VT.int_mk, VT.text_mk, VT.p_mk, VT.n_mk, VT.c_mk] at a0 a1 a2 a3 e0 e1 e2 e3 HC
        clear hat2 ih HI hx hy
        by_cases hr : G j = 0
        · have HZ1 : Hid (firstN G (j + 1) = 0) := by rw [hs1.out, hr]; rfl
          rw [hr] at HC
          clear HG hs1 hr HG1
          go_wp2_with (go_at_call 41; refine (HC.out _ ?_).mono ?_; exact ((Below.refl _ _).alloc (Nat.le_refl _) _).alloc (by simp) _; rintro e w4 ⟨rfl, hb4⟩)
          have hbw : Below w.heap.size w w4 := ((hbel.alloc hbel.size _).alloc (by have := hbel.size; simp; omega) _).trans (hb4.mono (by have := hbel.size; simp; omega))
          go_roundw
          case rel => exact ⟨j + 1, by omega, by omega, by go_num, HZ1, hbw⟩
          case measure => simp [intOf]; omega
        · have HR : Hid (ordL G n n2 = G j) := by
            have h1 : firstN G (min n n2) = G j := by rw [← hs1.out]; exact firstN_stuck (by omega) (by rw [hs1.out]; exact hr)
            unfold ordL Hid
            rw [h1, if_pos hr]
          obtain ⟨r, HRr⟩ : ∃ r, Hid (G j = r) := ⟨_, rfl⟩
          rw [HRr.out] at HC HR hr
          clear HG hs1 HG1
          go_wp2_with (go_at_call 41; refine (HC.out _ ?_).mono ?_; exact ((Below.refl _ _).alloc (Nat.le_refl _) _).alloc (by simp) _; rintro e w4 ⟨rfl, hb4⟩)
          have hbw : Below w.heap.size w w4 := ((hbel.alloc hbel.size _).alloc (by have := hbel.size; simp; omega) _).trans (hb4.mono (by have := hbel.size; simp; omega))
          go_ret
          exact ⟨by rw [HR.out]; rfl, hbw⟩
      · obtain rfl : j = n2 := by omega
        have hlt2' : (j : Int) ≤ (j : Int) := by omega
        have HR : Hid (ordL G n j = 1) := by
          unfold ordL Hid
          rw [show min n j = j by omega, if_neg (by rw [HZ.out]; simp), cmpI, if_neg (by omega), if_pos (by omega)]
        clear ih HI HG
        go_wp2
        go_ret
        exact ⟨by rw [HR.out]; rfl, hbel.alloc hbel.size _⟩
    · obtain rfl : j = n := by omega
      have hx : ¬ (j : Int) < (j : Int) := by omega
      by_cases h2 : j < n2
      · have h2' : (j : Int) < (n2 : Int) := by omega
        have HR : Hid (ordL G j n2 = -1) := by
          unfold ordL Hid
          rw [show min j n2 = j by omega, if_neg (by rw [HZ.out]; simp), cmpI, if_pos h2']
        clear ih HI HG
        go_wp2
        go_ret
        exact ⟨by rw [HR.out]; rfl, hbel⟩
      · obtain rfl : j = n2 := by omega
        have HR : Hid (ordL G j j = 0) := by
          unfold ordL Hid
          rw [show min j j = j by omega, if_neg (by rw [HZ.out]; simp), cmpI, if_neg (by omega), if_neg (by omega)]
        clear ih HI HG
        go_wp2
        go_ret
        exact ⟨by rw [HR.out]; rfl, hbel⟩
end Go.Proofs.YtoifpdnaeogdgabGreatDoor

namespace Go.Proofs.YtoifpdnaeogdgabGreatDoor
open Go.RowKit
set_option maxRecDepth 8000

set_option maxHeartbeats 1000000 in
theorem order_kinds (k i : Int) (s : ByteArray) (n : Nat) (p : Option Addr) (c : Nat) (k2 i2 : Int) (s2 : ByteArray) (n2 : Nat) (p2 : Option Addr) (c2 : Nat) (w : World) (h : ¬ k = k2) :
    Calls Tryz.prog 41 #[.agg #[.int .i64 k, .int .i64 i, .string s, .slice p n c], .agg #[.int .i64 k2, .int .i64 i2, .string s2, .slice p2 n2 c2]] w fun e w' => e = .returned (.int .i64 (cmpI k k2)) ∧ Below w.heap.size w w' := by
  have HC := fun W => cmpInt_any k k2 W
  go_enter Tryz.func41, Tryz.ntmps41
  go_wp2_with fail
  refine (HC _).mono ?_
  rintro e w1 ⟨rfl, rfl⟩
  go_wp2
  go_ret
  exact ⟨rfl, ((Below.refl _ _).alloc (Nat.le_refl _) _).alloc (by simp) _⟩
set_option maxHeartbeats 1000000 in
theorem order_ints (i : Int) (s : ByteArray) (n : Nat) (p : Option Addr) (c : Nat) (i2 : Int) (s2 : ByteArray) (n2 : Nat) (p2 : Option Addr) (c2 : Nat) (w : World) :
    Calls Tryz.prog 41 #[.agg #[.int .i64 1, .int .i64 i, .string s, .slice p n c], .agg #[.int .i64 1, .int .i64 i2, .string s2, .slice p2 n2 c2]] w fun e w' => e = .returned (.int .i64 (cmpI i i2)) ∧ Below w.heap.size w w' := by
  have HC := fun W => cmpInt64_any i i2 W
  go_enter Tryz.func41, Tryz.ntmps41
  go_wp2_with fail
  refine (HC _).mono ?_
  rintro e w1 ⟨rfl, rfl⟩
  go_wp2
  go_ret
  exact ⟨rfl, ((Below.refl _ _).alloc (Nat.le_refl _) _).alloc (by simp) _⟩
set_option maxHeartbeats 1000000 in
theorem order_texts (i : Int) (s : ByteArray) (n : Nat) (p : Option Addr) (c : Nat) (i2 : Int) (s2 : ByteArray) (n2 : Nat) (p2 : Option Addr) (c2 : Nat) (w : World) :
    Calls Tryz.prog 41 #[.agg #[.int .i64 2, .int .i64 i, .string s, .slice p n c], .agg #[.int .i64 2, .int .i64 i2, .string s2, .slice p2 n2 c2]] w fun e w' => e = .returned (.int .i64 (cmpS s s2)) ∧ Below w.heap.size w w' := by
  have HC := fun W => cmpStr_any s s2 W
  go_enter Tryz.func41, Tryz.ntmps41
  go_wp2_with fail
  refine (HC _).mono ?_
  rintro e w1 ⟨rfl, rfl⟩
  go_wp2
  go_ret
  exact ⟨rfl, ((Below.refl _ _).alloc (Nat.le_refl _) _).alloc (by simp) _⟩
set_option maxHeartbeats 1000000 in
theorem order_lists (k i : Int) (s : ByteArray) (n : Nat) (p : Option Addr) (c : Nat) (i2 : Int) (s2 : ByteArray) (n2 : Nat) (p2 : Option Addr) (c2 : Nat) (w : World) (h1 : ¬ k = 1) (h2 : ¬ k = 2) (r : Int)
    (HC : Hid (∀ W, Below w.heap.size w W → Calls Tryz.prog 82 #[.slice p n c, .slice p2 n2 c2, .func (Fn.func 41) #[] #[]] W fun e w' => e = .returned (.int .i64 r) ∧ Below W.heap.size W w')) :
    Calls Tryz.prog 41 #[.agg #[.int .i64 k, .int .i64 i, .string s, .slice p n c], .agg #[.int .i64 k, .int .i64 i2, .string s2, .slice p2 n2 c2]] w fun e w' => e = .returned (.int .i64 r) ∧ Below w.heap.size w w' := by
  go_enter Tryz.func41, Tryz.ntmps41
  go_wp2_with fail
  refine (HC.out _ ?_).mono ?_
  · exact ((Below.refl _ _).alloc (Nat.le_refl _) _).alloc (by simp) _
  rintro e w1 ⟨rfl, hb1⟩
  have hbw : Below w.heap.size w w1 := (((Below.refl w.heap.size w).alloc (Nat.le_refl _) _).alloc (by simp) _).trans (hb1.mono (by simp; omega))
  clear HC hb1
  go_wp2
  go_ret
  exact ⟨rfl, hbw⟩

theorem ordV_kinds (k k2 : Int) (i : Int) (s : ByteArray) (n : Nat) (p : Option Addr) (c : Nat) (f : Nat → VT) (i2 : Int) (s2 : ByteArray) (n2 : Nat) (p2 : Option Addr) (c2 : Nat) (f2 : Nat → VT) (h : ¬ k = k2) : ordV (.mk k i s n p c f) (.mk k2 i2 s2 n2 p2 c2 f2) = cmpI k k2 := by
  rw [ordV_eq, if_pos (show k ≠ (VT.mk k2 i2 s2 n2 p2 c2 f2).kind from h)]; rfl
theorem ordV_ints (i : Int) (s : ByteArray) (n : Nat) (p : Option Addr) (c : Nat) (f : Nat → VT) (i2 : Int) (s2 : ByteArray) (n2 : Nat) (p2 : Option Addr) (c2 : Nat) (f2 : Nat → VT) : ordV (.mk 1 i s n p c f) (.mk 1 i2 s2 n2 p2 c2 f2) = cmpI i i2 := by
  rw [ordV_eq, if_neg (show ¬ (1 : Int) ≠ (VT.mk 1 i2 s2 n2 p2 c2 f2).kind from fun h => h rfl), if_pos rfl]; rfl
theorem ordV_texts (i : Int) (s : ByteArray) (n : Nat) (p : Option Addr) (c : Nat) (f : Nat → VT) (i2 : Int) (s2 : ByteArray) (n2 : Nat) (p2 : Option Addr) (c2 : Nat) (f2 : Nat → VT) : ordV (.mk 2 i s n p c f) (.mk 2 i2 s2 n2 p2 c2 f2) = cmpS s s2 := by
  rw [ordV_eq, if_neg (show ¬ (2 : Int) ≠ (VT.mk 2 i2 s2 n2 p2 c2 f2).kind from fun h => h rfl), if_neg (by decide), if_pos rfl]; rfl
theorem ordV_lists (k : Int) (i : Int) (s : ByteArray) (n : Nat) (p : Option Addr) (c : Nat) (f : Nat → VT) (i2 : Int) (s2 : ByteArray) (n2 : Nat) (p2 : Option Addr) (c2 : Nat) (f2 : Nat → VT) (h1 : ¬ k = 1) (h2 : ¬ k = 2) : ordV (.mk k i s n p c f) (.mk k i2 s2 n2 p2 c2 f2) = ordL (fun j => ordV (f j) (f2 j)) n n2 := by
  rw [ordV_eq, if_neg (show ¬ k ≠ (VT.mk k i2 s2 n2 p2 c2 f2).kind from fun h => h rfl), if_neg h1, if_neg h2]; rfl

theorem order_any (t : VT) : OrderC t := by
  induction t with
  | nil => intro u w S R hin; exact hin.elim
  | mk k i s n p c f ih =>
    intro u w S R hin hiu
    obtain ⟨k2, i2, s2, n2, p2, c2, f2, rfl⟩ := hiu.mk_
    by_cases hk : k = k2
    · subst hk
      by_cases h1 : k = 1
      · subst h1
        rw [ordV_ints]
        exact order_ints i s n p c i2 s2 n2 p2 c2 w
      by_cases h2 : k = 2
      · subst h2
        rw [ordV_texts]
        exact order_texts i s n p c i2 s2 n2 p2 c2 w
      rw [ordV_lists k i s n p c f i2 s2 n2 p2 c2 f2 h1 h2]
      exact order_lists k i s n p c i2 s2 n2 p2 c2 w h1 h2 _ fun W hW => cmpFunc_of k i s n p c f ih k i2 s2 n2 p2 c2 f2 W S R (hin.below hW) (hiu.below hW)
    · rw [ordV_kinds k k2 i s n p c f i2 s2 n2 p2 c2 f2 hk]
      exact order_kinds k i s n p c k2 i2 s2 n2 p2 c2 w hk
end Go.Proofs.YtoifpdnaeogdgabGreatDoor

namespace Go.Proofs.YtoifpdnaeogdgabGreatDoor
open Go.RowKit
set_option maxRecDepth 8000

set_option maxHeartbeats 1000000 in
theorem compare_any (t u : VT) (w : World) (S R : Nat → Prop) (hin : VT.In w S t) (hiu : VT.In w R u) :
    Calls Tryz.prog 15 #[t.val, u.val] w fun e w' => e = .returned (.int .i64 (ordV (cleanT t) (cleanT u))) ∧ Below w.heap.size w w' := by
  have H1 : Hid (∀ W, Below w.heap.size w W → Calls Tryz.prog 32 #[t.val] W fun e w' => e = .returned (cleanT t).val ∧ Below W.heap.size W w') := fun W hW => orNone_any t W S (hin.below hW)
  have H2 : Hid (∀ W, Below w.heap.size w W → Calls Tryz.prog 32 #[u.val] W fun e w' => e = .returned (cleanT u).val ∧ Below W.heap.size W w') := fun W hW => orNone_any u W R (hiu.below hW)
  have H3 : Hid (∀ W, Below w.heap.size w W → Calls Tryz.prog 41 #[(cleanT t).val, (cleanT u).val] W fun e w' => e = .returned (.int .i64 (ordV (cleanT t) (cleanT u))) ∧ Below W.heap.size W w') := fun W hW => order_any (cleanT t) (cleanT u) W S R (cleanT_in (hin.below hW)) (cleanT_in (hiu.below hW))
  clear hin hiu
  generalize ordV (cleanT t) (cleanT u) = r at *
  generalize cleanT t = ct at *
  generalize cleanT u = cu at *
  unfold VT.val at H1 H2 H3 ⊢
  go_enter Tryz.func15, Tryz.ntmps15
  go_wp2_with fail
  have HW0 : Hid (Below w.heap.size w ((w.alloc (.cells #[.int .i64 t.kind, .int .i64 t.int, .string t.text, .slice t.p t.n t.c] 24)).alloc (.cells #[.int .i64 u.kind, .int .i64 u.int, .string u.text, .slice u.p u.n u.c] 24))) := ((Below.refl _ _).alloc (Nat.le_refl _) _).alloc (by simp) _
  have HB : Hid (∀ W, Below ((w.alloc (.cells #[.int .i64 t.kind, .int .i64 t.int, .string t.text, .slice t.p t.n t.c] 24)).alloc (.cells #[.int .i64 u.kind, .int .i64 u.int, .string u.text, .slice u.p u.n u.c] 24)).heap.size ((w.alloc (.cells #[.int .i64 t.kind, .int .i64 t.int, .string t.text, .slice t.p t.n t.c] 24)).alloc (.cells #[.int .i64 u.kind, .int .i64 u.int, .string u.text, .slice u.p u.n u.c] 24)) W → Box W (w.heap.size + 1) #[.int .i64 u.kind, .int .i64 u.int, .string u.text, .slice u.p u.n u.c] 24) := by
    intro W hW
    have h := Box.new (w.alloc (.cells #[.int .i64 t.kind, .int .i64 t.int, .string t.text, .slice t.p t.n t.c] 24)) #[.int .i64 u.kind, .int .i64 u.int, .string u.text, .slice u.p u.n u.c] 24
    rw [show (w.alloc (.cells #[.int .i64 t.kind, .int .i64 t.int, .string t.text, .slice t.p t.n t.c] 24)).heap.size = w.heap.size + 1 by simp] at h
    exact h.below hW
  go_region_with (first | (go_at_call 32; refine (H1.out _ HW0.out.drew).mono ?_; rintro e w1 ⟨rfl, hb1⟩; have y := HB.out w1 (by exact ((Below.refl _ _).drew).trans hb1); have hbw1 : Below w.heap.size w w1 := HW0.out.drew.trans (hb1.mono HW0.out.size); have x0 := y.cell 0; have x1 := y.cell 1; have x2 := y.cell 2; have x3 := y.cell 3; simp at x0 x1 x2 x3; clear y hb1) | (go_at_call 32; refine (H2.out _ hbw1).mono ?_; rintro e w2 ⟨rfl, hb2⟩; have hbw2 : Below w.heap.size w w2 := hbw1.trans (hb2.mono hbw1.size)) | (go_at_call 41; refine (H3.out _ hbw2).mono ?_; rintro e w3 ⟨rfl, hb3⟩; have hbw3 : Below w.heap.size w w3 := hbw2.trans (hb3.mono hbw2.size)))
  all_goals
    go_wp2
    go_ret
    exact ⟨rfl, hbw3⟩
end Go.Proofs.YtoifpdnaeogdgabGreatDoor
