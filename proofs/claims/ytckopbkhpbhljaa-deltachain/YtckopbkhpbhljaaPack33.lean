import Derived.Test.YtckopbkhpbhljaaPack32
namespace Go.Proofs.Ytckopbkhpbhljaa
open Go.RowKit

/-- the first that is not 0 of the first j -/
def firstN (g : Nat → Int) : Nat → Int
  | 0 => 0
  | j + 1 => if firstN g j ≠ 0 then firstN g j else g j
/-- the order of two valid values -/
def ordV : VT → VT → Int
  | .nil, _ => 0
  | .mk k i s n _ _ f, u => if k ≠ u.kind then cmpI k u.kind else if k = 1 then cmpI i u.int else if k = 2 then cmpS s u.text
    else if firstN (fun j => ordV (f j) (u.item j)) (min n u.n) ≠ 0 then firstN (fun j => ordV (f j) (u.item j)) (min n u.n) else cmpI n u.n
theorem ordV_eq (k i : Int) (s : ByteArray) (n : Nat) (p : Option Addr) (c : Nat) (f : Nat → VT) (u : VT) : ordV (.mk k i s n p c f) u = if k ≠ u.kind then cmpI k u.kind else if k = 1 then cmpI i u.int else if k = 2 then cmpS s u.text
    else if firstN (fun j => ordV (f j) (u.item j)) (min n u.n) ≠ 0 then firstN (fun j => ordV (f j) (u.item j)) (min n u.n) else cmpI n u.n := rfl
theorem firstN_stuck {g : Nat → Int} : ∀ {n j : Nat}, j ≤ n → firstN g j ≠ 0 → firstN g n = firstN g j := by
  intro n
  induction n with
  | zero =>
    intro j h _
    obtain rfl : j = 0 := by omega
    rfl
  | succ n ih =>
    intro j h hne
    by_cases hj : j = n + 1
    · rw [hj]
    · have e := ih (show j ≤ n by omega) hne
      show (if firstN g n ≠ 0 then firstN g n else g n) = _
      rw [e, if_pos hne]
theorem firstN_succ {g : Nat → Int} {j : Nat} (h : firstN g j = 0) : firstN g (j + 1) = g j := by
  show (if firstN g j ≠ 0 then firstN g j else g j) = _
  rw [if_neg (by simpa using h)]
theorem firstN_congr {g h : Nat → Int} : ∀ n, (∀ j, j < n → g j = h j) → firstN g n = firstN h n := by
  intro n
  induction n with
  | zero => intro _; rfl
  | succ n ih =>
    intro e
    show (if firstN g n ≠ 0 then firstN g n else g n) = (if firstN h n ≠ 0 then firstN h n else h n)
    rw [ih fun j hj => e j (by omega), e n (by omega)]
/-- none -/
def zeroT : VT := .mk 0 0 ⟨#[]⟩ 0 none 0 (fun _ => .nil)
/-- a value, or none if it isn't valid -/
def cleanT (t : VT) : VT := if (chk t 0 0).1 = 0 then t else zeroT
theorem zeroT_in (w : World) (S : Nat → Prop) : VT.In w S zeroT := by
  refine ⟨⟨?_, ?_, ?_, ?_, ?_, Nat.le_refl 0, ?_, Nat.zero_le _, fun _ => ⟨rfl, rfl⟩⟩, fun h => absurd h (by omega), fun j hj => absurd hj (by omega)⟩
  · show (-9223372036854775808 : Int) ≤ 0; omega
  · show (0 : Int) ≤ 9223372036854775807; omega
  · show (-9223372036854775808 : Int) ≤ 0; omega
  · show (0 : Int) ≤ 9223372036854775807; omega
  · show (⟨#[]⟩ : ByteArray).size ≤ 140737488355328; decide
  · show 0 ≤ 140737488355328; omega
theorem cleanT_in {w : World} {S : Nat → Prop} {t : VT} (h : VT.In w S t) : VT.In w S (cleanT t) := by
  unfold cleanT
  split
  · exact h
  · exact zeroT_in w S
end Go.Proofs.Ytckopbkhpbhljaa

namespace Go.Proofs.Ytckopbkhpbhljaa
open Go.RowKit
set_option maxRecDepth 8000

/-- the order of two lists, by the order of their items -/
def ordL (g : Nat → Int) (n n2 : Nat) : Int := if firstN g (min n n2) ≠ 0 then firstN g (min n n2) else cmpI n n2
def OrderC (t : VT) : Prop := ∀ (u : VT) (w : World) (S R : Nat → Prop), VT.In w S t → VT.In w R u → Calls Try.prog 78 #[t.val, u.val] w fun e w' => e = .returned (.int .i64 (ordV t u)) ∧ Below w.heap.size w w'

set_option maxHeartbeats 2000000 in
theorem cmpFunc_of (k i : Int) (s : ByteArray) (n : Nat) (p : Option Addr) (c : Nat) (f : Nat → VT) (ih : ∀ j, OrderC (f j)) (k2 i2 : Int) (s2 : ByteArray) (n2 : Nat) (p2 : Option Addr) (c2 : Nat) (f2 : Nat → VT) (w : World) (S R : Nat → Prop)
    (hin : VT.In w S (.mk k i s n p c f)) (hiu : VT.In w R (.mk k2 i2 s2 n2 p2 c2 f2)) :
    Calls Try.prog 97 #[.slice p n c, .slice p2 n2 c2, .func (Fn.func 78) #[] #[]] w fun e w' => e = .returned (.int .i64 (ordL (fun j => ordV (f j) (f2 j)) n n2)) ∧ Below w.heap.size w w' := by
  have hnn := hin.fit.nn
  have hnn2 := hiu.fit.nn
  simp only [VT.n_mk] at hnn hnn2
  have HI : Hid (VT.In w S (.mk k i s n p c f) ∧ VT.In w R (.mk k2 i2 s2 n2 p2 c2 f2)) := ⟨hin, hiu⟩
  clear hin hiu
  obtain ⟨G, HG⟩ : ∃ G : Nat → Int, Hid (G = fun j => ordV (f j) (f2 j)) := ⟨_, rfl⟩
  rw [← HG.out]
  go_enter Try.func97, Try.ntmps97
  go_wp2_with fail
  go_loopw [13] (fun x wr => ∃ j : Nat, j ≤ n ∧ j ≤ n2 ∧ x = .int .i64 j ∧ Hid (firstN G j = 0) ∧ Below w.heap.size w wr) (fun x _ => n - (intOf x).toNat)
  case atStart => exact ⟨0, by omega, by omega, rfl, rfl, Below.refl _ _⟩
  case round =>
    obtain ⟨j, hj, hj2, rfl, HZ, hbel⟩ := hrel
    by_cases hlt : j < n
    · have hlt' : (j : Int) < (n : Int) := by omega
      obtain ⟨b1, o1, hp, _, hbl, hat⟩ := HI.out.1.at_ (show 0 < (VT.mk k i s n p c f).n from by simp only [VT.n]; omega)
      simp only [VT.p_mk] at hp
      subst hp
      obtain ⟨a0, a1, a2, a3⟩ := (hat j hlt).kept (hbel.block b1 hbl)
      simp only [VT.item_mk] at a0 a1 a2 a3
      have hl1 : b1 < wr.heap.size := Nat.lt_of_lt_of_le hbl hbel.size
      clear hat
      by_cases hlt2 : j < n2
      · have hlt2' : ¬ (n2 : Int) ≤ (j : Int) := by omega
        have hlt3 : (j : Int) < (n2 : Int) := by omega
        obtain ⟨b2, o2, hp2, _, hbl2, hat2⟩ := HI.out.2.at_ (show 0 < (VT.mk k2 i2 s2 n2 p2 c2 f2).n from by simp only [VT.n]; omega)
        simp only [VT.p_mk] at hp2
        subst hp2
        obtain ⟨e0, e1, e2, e3⟩ := (hat2 j hlt2).kept (hbel.block b2 hbl2)
        simp only [VT.item_mk] at e0 e1 e2 e3
        have hl2 : b2 < wr.heap.size := Nat.lt_of_lt_of_le hbl2 hbel.size
        have hs1 : Hid (firstN G (j + 1) = G j) := firstN_succ HZ.out
        have HG1 : Hid (G j = ordV (f j) (f2 j)) := by rw [HG.out]; rfl
        have HC : Hid (∀ W, Below wr.heap.size wr W → Calls Try.prog 78 #[(f j).val, (f2 j).val] W fun e w' => e = .returned (.int .i64 (G j)) ∧ Below W.heap.size W w') := by
          intro W hW
          rw [HG1.out]
          exact ih j (f2 j) W (fun b => S b ∧ b < w.heap.size) (fun b => R b ∧ b < w.heap.size) ((((HI.out.1.sub hlt).mono fun b hb hl => ⟨hb, hl⟩).kept hbel.size (fun b hb _ => hbel.block b hb.2)).below hW) ((((HI.out.2.sub hlt2).mono fun b hb hl => ⟨hb, hl⟩).kept hbel.size (fun b hb _ => hbel.block b hb.2)).below hW)
        obtain ⟨xk, xi, xs, xn, xp, xc, xf, hx⟩ := (HI.out.1.sub hlt).mk_
        obtain ⟨yk, yi, ys, yn, yp, yc, yf, hy⟩ := (HI.out.2.sub hlt2).mk_
        simp only [VT.item_mk] at hx hy
        unfold VT.val at HC
        rw [hx] at a0 a1 a2 a3 HC
        rw [hy] at e0 e1 e2 e3 HC
        simp only [VT.kind_mk, VT.int_mk, VT.text_mk, VT.p_mk, VT.n_mk, VT.c_mk] at a0 a1 a2 a3 e0 e1 e2 e3 HC
        clear hat2 ih HI hx hy
        by_cases hr : G j = 0
        · have HZ1 : Hid (firstN G (j + 1) = 0) := by rw [hs1.out, hr]; rfl
          rw [hr] at HC
          clear HG hs1 hr HG1
          go_wp2_with (go_at_call 78; refine (HC.out _ ?_).mono ?_; exact ((Below.refl _ _).alloc (Nat.le_refl _) _).alloc (by simp) _; rintro e w4 ⟨rfl, hb4⟩)
          have hbw : Below w.heap.size w w4 := ((hbel.alloc hbel.size _).alloc (by have := hbel.size; simp; omega) _).trans (hb4.mono (by have := hbel.size; simp; omega))
          go_roundw
          case rel => exact ⟨j + 1, by omega, by omega, by go_num, HZ1, hbw⟩
          case measure => simp [intOf]; omega
        · have HR : Hid (ordL G n n2 = G j) := by
            have h1 : firstN G (min n n2) = G j := by rw [← hs1.out]; exact firstN_stuck (by omega) (by rw [hs1.out]; exact hr)
            unfold ordL Hid
            rw [h1, if_pos hr]
          obtain ⟨r, HRr⟩ : ∃ r, Hid (G j = r) := ⟨_, rfl⟩
          rw [HRr.out] at HC HR hr
          clear HG hs1 HG1
          go_wp2_with (go_at_call 78; refine (HC.out _ ?_).mono ?_; exact ((Below.refl _ _).alloc (Nat.le_refl _) _).alloc (by simp) _; rintro e w4 ⟨rfl, hb4⟩)
          have hbw : Below w.heap.size w w4 := ((hbel.alloc hbel.size _).alloc (by have := hbel.size; simp; omega) _).trans (hb4.mono (by have := hbel.size; simp; omega))
          go_ret
          exact ⟨by rw [HR.out]; rfl, hbw⟩
      · obtain rfl : j = n2 := by omega
        have hlt2' : (j : Int) ≤ (j : Int) := by omega
        have HR : Hid (ordL G n j = 1) := by
          unfold ordL Hid
          rw [show min n j = j by omega, if_neg (by rw [HZ.out]; simp), cmpI, if_neg (by omega), if_pos (by omega)]
        clear ih HI HG
        go_wp2
        go_ret
        exact ⟨by rw [HR.out]; rfl, hbel.alloc hbel.size _⟩
    · obtain rfl : j = n := by omega
      have hx : ¬ (j : Int) < (j : Int) := by omega
      by_cases h2 : j < n2
      · have h2' : (j : Int) < (n2 : Int) := by omega
        have HR : Hid (ordL G j n2 = -1) := by
          unfold ordL Hid
          rw [show min j n2 = j by omega, if_neg (by rw [HZ.out]; simp), cmpI, if_pos h2']
        clear ih HI HG
        go_wp2
        go_ret
        exact ⟨by rw [HR.out]; rfl, hbel⟩
      · obtain rfl : j = n2 := by omega
        have HR : Hid (ordL G j j = 0) := by
          unfold ordL Hid
          rw [show min j j = j by omega, if_neg (by rw [HZ.out]; simp), cmpI, if_neg (by omega), if_neg (by omega)]
        clear ih HI HG
        go_wp2
        go_ret
        exact ⟨by rw [HR.out]; rfl, hbel⟩
end Go.Proofs.Ytckopbkhpbhljaa
