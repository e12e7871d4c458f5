import Derived.Test.YtehpdhhlggegdaaPack8
import Derived.Test.YtehpdhhlggegdaaPack19
namespace Go.Proofs.Ytehpdhhlggegdaa
open Go.RowKit
set_option maxRecDepth 8000

/-- the order of two lists, by the order of their items -/
def ordL (g : Nat → Int) (n n2 : Nat) : Int := if firstN g (min n n2) ≠ 0 then firstN g (min n n2) else cmpI n n2
def OrderC (t : VT) : Prop := ∀ (u : VT) (w : World) (S R : Nat → Prop), VT.In w S t → VT.In w R u → Calls Try.prog 43 #[t.val, u.val] w fun e w' => e = .returned (.int .i64 (ordV t u)) ∧ Below w.heap.size w w'

set_option maxHeartbeats 2000000 in
theorem cmpFunc_of (k i : Int) (s : ByteArray) (n : Nat) (p : Option Addr) (c : Nat) (f : Nat → VT) (ih : ∀ j, OrderC (f j)) (k2 i2 : Int) (s2 : ByteArray) (n2 : Nat) (p2 : Option Addr) (c2 : Nat) (f2 : Nat → VT) (w : World) (S R : Nat → Prop)
    (hin : VT.In w S (.mk k i s n p c f)) (hiu : VT.In w R (.mk k2 i2 s2 n2 p2 c2 f2)) :
    Calls Try.prog 67 #[.slice p n c, .slice p2 n2 c2, .func (Fn.func 43) #[] #[]] w fun e w' => e = .returned (.int .i64 (ordL (fun j => ordV (f j) (f2 j)) n n2)) ∧ Below w.heap.size w w' := by
  have hnn := hin.fit.nn
  have hnn2 := hiu.fit.nn
  simp only [VT.n_mk] at hnn hnn2
  have HI : Hid (VT.In w S (.mk k i s n p c f) ∧ VT.In w R (.mk k2 i2 s2 n2 p2 c2 f2)) := ⟨hin, hiu⟩
  clear hin hiu
  obtain ⟨G, HG⟩ : ∃ G : Nat → Int, Hid (G = fun j => ordV (f j) (f2 j)) := ⟨_, rfl⟩
  rw [← HG.out]
  go_enter Try.func67, Try.ntmps67
  go_wp2_with fail
  go_loopw [13] (fun x wr => ∃ j : Nat, j ≤ n ∧ j ≤ n2 ∧ x = .int .i64 j ∧ Hid (firstN G j = 0) ∧ Below w.heap.size w wr) (fun x _ => n - (intOf x).toNat)
  case atStart => exact ⟨0, by omega, by omega, rfl, rfl, Below.refl _ _⟩
  case round =>
    obtain ⟨j, hj, hj2, rfl, HZ, hbel⟩ := hrel
    by_cases hlt : j < n
    · have hlt' : (j : Int) < (n : Int) := by omega
      obtain ⟨b1, o1, hp, _, hbl, hat⟩ := HI.out.1.at_ (show 0 < (VT.mk k i s n p c f).n from by simp only [VT.n]; omega)
      simp only [VT.p_mk] at hp
      subst hp
      obtain ⟨a0, a1, a2, a3⟩ := (hat j hlt).kept (hbel.block b1 hbl)
      simp only [VT.item_mk] at a0 a1 a2 a3
      have hl1 : b1 < wr.heap.size := Nat.lt_of_lt_of_le hbl hbel.size
      clear hat
      by_cases hlt2 : j < n2
      · have hlt2' : ¬ (n2 : Int) ≤ (j : Int) := by omega
        have hlt3 : (j : Int) < (n2 : Int) := by omega
        obtain ⟨b2, o2, hp2, _, hbl2, hat2⟩ := HI.out.2.at_ (show 0 < (VT.mk k2 i2 s2 n2 p2 c2 f2).n from by simp only [VT.n]; omega)
        simp only [VT.p_mk] at hp2
        subst hp2
        obtain ⟨e0, e1, e2, e3⟩ := (hat2 j hlt2).kept (hbel.block b2 hbl2)
        simp only [VT.item_mk] at e0 e1 e2 e3
        have hl2 : b2 < wr.heap.size := Nat.lt_of_lt_of_le hbl2 hbel.size
        have hs1 : Hid (firstN G (j + 1) = G j) := firstN_succ HZ.out
        have HG1 : Hid (G j = ordV (f j) (f2 j)) := by rw [HG.out]; rfl
        have HC : Hid (∀ W, Below wr.heap.size wr W → Calls Try.prog 43 #[(f j).val, (f2 j).val] W fun e w' => e = .returned (.int .i64 (G j)) ∧ Below W.heap.size W w') := by
          intro W hW
          rw [HG1.out]
          exact ih j (f2 j) W (fun b => S b ∧ b < w.heap.size) (fun b => R b ∧ b < w.heap.size) ((((HI.out.1.sub hlt).mono fun b hb hl => ⟨hb, hl⟩).kept hbel.size (fun b hb _ => hbel.block b hb.2)).below hW) ((((HI.out.2.sub hlt2).mono fun b hb hl => ⟨hb, hl⟩).kept hbel.size (fun b hb _ => hbel.block b hb.2)).below hW)
        obtain ⟨xk, xi, xs, xn, xp, xc, xf, hx⟩ := (HI.out.1.sub hlt).mk_
        obtain ⟨yk, yi, ys, yn, yp, yc, yf, hy⟩ := (HI.out.2.sub hlt2).mk_
        simp only [VT.item_mk] at hx hy
        unfold VT.val at HC
        rw [hx] at a0 a1 a2 a3 HC
        rw [hy] at e0 e1 e2 e3 HC
        simp only [VT.kind_mk, VT.int_mk, VT.text_mk, VT.p_mk, VT.n_mk, VT.c_mk] at a0 a1 a2 a3 e0 e1 e2 e3 HC
        clear hat2 ih HI hx hy
        by_cases hr : G j = 0
        · have HZ1 : Hid (firstN G (j + 1) = 0) := by rw [hs1.out, hr]; rfl
          rw [hr] at HC
          clear HG hs1 hr HG1
          go_wp2_with (go_at_call 43; refine (HC.out _ ?_).mono ?_; exact ((Below.refl _ _).alloc (Nat.le_refl _) _).alloc (by simp) _; rintro e w4 ⟨rfl, hb4⟩)
          have hbw : Below w.heap.size w w4 := ((hbel.alloc hbel.size _).alloc (by have := hbel.size; simp; omega) _).trans (hb4.mono (by have := hbel.size; simp; omega))
          go_roundw
          case rel => exact ⟨j + 1, by omega, by omega, by go_num, HZ1, hbw⟩
          case measure => simp [intOf]; omega
        · have HR : Hid (ordL G n n2 = G j) := by
            have h1 : firstN G (min n n2) = G j := by rw [← hs1.out]; exact firstN_stuck (by omega) (by rw [hs1.out]; exact hr)
            unfold ordL Hid
            rw [h1, if_pos hr]
          obtain ⟨r, HRr⟩ : ∃ r, Hid (G j = r) := ⟨_, rfl⟩
          rw [HRr.out] at HC HR hr
          clear HG hs1 HG1
          go_wp2_with (go_at_call 43; refine (HC.out _ ?_).mono ?_; exact ((Below.refl _ _).alloc (Nat.le_refl _) _).alloc (by simp) _; rintro e w4 ⟨rfl, hb4⟩)
          have hbw : Below w.heap.size w w4 := ((hbel.alloc hbel.size _).alloc (by have := hbel.size; simp; omega) _).trans (hb4.mono (by have := hbel.size; simp; omega))
          go_ret
          exact ⟨by rw [HR.out]; rfl, hbw⟩
      · obtain rfl : j = n2 := by omega
        have hlt2' : (j : Int) ≤ (j : Int) := by omega
        have HR : Hid (ordL G n j = 1) := by
          unfold ordL Hid
          rw [show min n j = j by omega, if_neg (by rw [HZ.out]; simp), cmpI, if_neg (by omega), if_pos (by omega)]
        clear ih HI HG
        go_wp2
        go_ret
        exact ⟨by rw [HR.out]; rfl, hbel.alloc hbel.size _⟩
    · obtain rfl : j = n := by omega
      have hx : ¬ (j : Int) < (j : Int) := by omega
      by_cases h2 : j < n2
      · have h2' : (j : Int) < (n2 : Int) := by omega
        have HR : Hid (ordL G j n2 = -1) := by
          unfold ordL Hid
          rw [show min j n2 = j by omega, if_neg (by rw [HZ.out]; simp), cmpI, if_pos h2']
        clear ih HI HG
        go_wp2
        go_ret
        exact ⟨by rw [HR.out]; rfl, hbel⟩
      · obtain rfl : j = n2 := by omega
        have HR : Hid (ordL G j j = 0) := by
          unfold ordL Hid
          rw [show min j j = j by omega, if_neg (by rw [HZ.out]; simp), cmpI, if_neg (by omega), if_neg (by omega)]
        clear ih HI HG
        go_wp2
        go_ret
        exact ⟨by rw [HR.out]; rfl, hbel⟩
end Go.Proofs.Ytehpdhhlggegdaa

namespace Go.Proofs.Ytehpdhhlggegdaa
open Go.RowKit
set_option maxRecDepth 8000

set_option maxHeartbeats 1000000 in
theorem order_kinds (k i : Int) (s : ByteArray) (n : Nat) (p : Option Addr) (c : Nat) (k2 i2 : Int) (s2 : ByteArray) (n2 : Nat) (p2 : Option Addr) (c2 : Nat) (w : World) (h : ¬ k = k2) :
    Calls Try.prog 43 #[.agg #[.int .i64 k, .int .i64 i, .string s, .slice p n c], .agg #[.int .i64 k2, .int .i64 i2, .string s2, .slice p2 n2 c2]] w fun e w' => e = .returned (.int .i64 (cmpI k k2)) ∧ Below w.heap.size w w' := by
  have HC := fun W => cmpInt_any k k2 W
  go_enter Try.func43, Try.ntmps43
  go_wp2_with fail
  refine (HC _).mono ?_
  rintro e w1 ⟨rfl, rfl⟩
  go_wp2
  go_ret
  exact ⟨rfl, ((Below.refl _ _).alloc (Nat.le_refl _) _).alloc (by simp) _⟩
set_option maxHeartbeats 1000000 in
theorem order_ints (i : Int) (s : ByteArray) (n : Nat) (p : Option Addr) (c : Nat) (i2 : Int) (s2 : ByteArray) (n2 : Nat) (p2 : Option Addr) (c2 : Nat) (w : World) :
    Calls Try.prog 43 #[.agg #[.int .i64 1, .int .i64 i, .string s, .slice p n c], .agg #[.int .i64 1, .int .i64 i2, .string s2, .slice p2 n2 c2]] w fun e w' => e = .returned (.int .i64 (cmpI i i2)) ∧ Below w.heap.size w w' := by
  have HC := fun W => cmpInt64_any i i2 W
  go_enter Try.func43, Try.ntmps43
  go_wp2_with fail
  refine (HC _).mono ?_
  rintro e w1 ⟨rfl, rfl⟩
  go_wp2
  go_ret
  exact ⟨rfl, ((Below.refl _ _).alloc (Nat.le_refl _) _).alloc (by simp) _⟩
set_option maxHeartbeats 1000000 in
theorem order_texts (i : Int) (s : ByteArray) (n : Nat) (p : Option Addr) (c : Nat) (i2 : Int) (s2 : ByteArray) (n2 : Nat) (p2 : Option Addr) (c2 : Nat) (w : World) :
    Calls Try.prog 43 #[.agg #[.int .i64 2, .int .i64 i, .string s, .slice p n c], .agg #[.int .i64 2, .int .i64 i2, .string s2, .slice p2 n2 c2]] w fun e w' => e = .returned (.int .i64 (cmpS s s2)) ∧ Below w.heap.size w w' := by
  have HC := fun W => cmpStr_any s s2 W
  go_enter Try.func43, Try.ntmps43
  go_wp2_with fail
  refine (HC _).mono ?_
  rintro e w1 ⟨rfl, rfl⟩
  go_wp2
  go_ret
  exact ⟨rfl, ((Below.refl _ _).alloc (Nat.le_refl _) _).alloc (by simp) _⟩
set_option maxHeartbeats 1000000 in
theorem order_lists (k i : Int) (s : ByteArray) (n : Nat) (p : Option Addr) (c : Nat) (i2 : Int) (s2 : ByteArray) (n2 : Nat) (p2 : Option Addr) (c2 : Nat) (w : World) (h1 : ¬ k = 1) (h2 : ¬ k = 2) (r : Int)
    (HC : Hid (∀ W, Below w.heap.size w W → Calls Try.prog 67 #[.slice p n c, .slice p2 n2 c2, .func (Fn.func 43) #[] #[]] W fun e w' => e = .returned (.int .i64 r) ∧ Below W.heap.size W w')) :
    Calls Try.prog 43 #[.agg #[.int .i64 k, .int .i64 i, .string s, .slice p n c], .agg #[.int .i64 k, .int .i64 i2, .string s2, .slice p2 n2 c2]] w fun e w' => e = .returned (.int .i64 r) ∧ Below w.heap.size w w' := by
  go_enter Try.func43, Try.ntmps43
  go_wp2_with fail
  refine (HC.out _ ?_).mono ?_
  · exact ((Below.refl _ _).alloc (Nat.le_refl _) _).alloc (by simp) _
  rintro e w1 ⟨rfl, hb1⟩
  have hbw : Below w.heap.size w w1 := (((Below.refl w.heap.size w).alloc (Nat.le_refl _) _).alloc (by simp) _).trans (hb1.mono (by simp; omega))
  clear HC hb1
  go_wp2
  go_ret
  exact ⟨rfl, hbw⟩

theorem ordV_kinds (k k2 : Int) (i : Int) (s : ByteArray) (n : Nat) (p : Option Addr) (c : Nat) (f : Nat → VT) (i2 : Int) (s2 : ByteArray) (n2 : Nat) (p2 : Option Addr) (c2 : Nat) (f2 : Nat → VT) (h : ¬ k = k2) : ordV (.mk k i s n p c f) (.mk k2 i2 s2 n2 p2 c2 f2) = cmpI k k2 := by
  rw [ordV_eq, if_pos (show k ≠ (VT.mk k2 i2 s2 n2 p2 c2 f2).kind from h)]; rfl
theorem ordV_ints (i : Int) (s : ByteArray) (n : Nat) (p : Option Addr) (c : Nat) (f : Nat → VT) (i2 : Int) (s2 : ByteArray) (n2 : Nat) (p2 : Option Addr) (c2 : Nat) (f2 : Nat → VT) : ordV (.mk 1 i s n p c f) (.mk 1 i2 s2 n2 p2 c2 f2) = cmpI i i2 := by
  rw [ordV_eq, if_neg (show ¬ (1 : Int) ≠ (VT.mk 1 i2 s2 n2 p2 c2 f2).kind from fun h => h rfl), if_pos rfl]; rfl
theorem ordV_texts (i : Int) (s : ByteArray) (n : Nat) (p : Option Addr) (c : Nat) (f : Nat → VT) (i2 : Int) (s2 : ByteArray) (n2 : Nat) (p2 : Option Addr) (c2 : Nat) (f2 : Nat → VT) : ordV (.mk 2 i s n p c f) (.mk 2 i2 s2 n2 p2 c2 f2) = cmpS s s2 := by
  rw [ordV_eq, if_neg (show ¬ (2 : Int) ≠ (VT.mk 2 i2 s2 n2 p2 c2 f2).kind from fun h => h rfl), if_neg (by decide), if_pos rfl]; rfl
theorem ordV_lists (k : Int) (i : Int) (s : ByteArray) (n : Nat) (p : Option Addr) (c : Nat) (f : Nat → VT) (i2 : Int) (s2 : ByteArray) (n2 : Nat) (p2 : Option Addr) (c2 : Nat) (f2 : Nat → VT) (h1 : ¬ k = 1) (h2 : ¬ k = 2) : ordV (.mk k i s n p c f) (.mk k i2 s2 n2 p2 c2 f2) = ordL (fun j => ordV (f j) (f2 j)) n n2 := by
  rw [ordV_eq, if_neg (show ¬ k ≠ (VT.mk k i2 s2 n2 p2 c2 f2).kind from fun h => h rfl), if_neg h1, if_neg h2]; rfl

theorem order_any (t : VT) : OrderC t := by
  induction t with
  | nil => intro u w S R hin; exact hin.elim
  | mk k i s n p c f ih =>
    intro u w S R hin hiu
    obtain ⟨k2, i2, s2, n2, p2, c2, f2, rfl⟩ := hiu.mk_
    by_cases hk : k = k2
    · subst hk
      by_cases h1 : k = 1
      · subst h1
        rw [ordV_ints]
        exact order_ints i s n p c i2 s2 n2 p2 c2 w
      by_cases h2 : k = 2
      · subst h2
        rw [ordV_texts]
        exact order_texts i s n p c i2 s2 n2 p2 c2 w
      rw [ordV_lists k i s n p c f i2 s2 n2 p2 c2 f2 h1 h2]
      exact order_lists k i s n p c i2 s2 n2 p2 c2 w h1 h2 _ fun W hW => cmpFunc_of k i s n p c f ih k i2 s2 n2 p2 c2 f2 W S R (hin.below hW) (hiu.below hW)
    · rw [ordV_kinds k k2 i s n p c f i2 s2 n2 p2 c2 f2 hk]
      exact order_kinds k i s n p c k2 i2 s2 n2 p2 c2 w hk
end Go.Proofs.Ytehpdhhlggegdaa

namespace Go.Proofs.Ytehpdhhlggegdaa
open Go.RowKit

/-- the order of lists of numbers -/
def cmpB : List Int → List Int → Int
  | [], [] => 0
  | [], _ :: _ => -1
  | _ :: _, [] => 1
  | a :: x, b :: y => if a < b then -1 else if b < a then 1 else cmpB x y
theorem cmpB_cons (a b : Int) (x y : List Int) : cmpB (a :: x) (b :: y) = if a < b then -1 else if b < a then 1 else cmpB x y := rfl
theorem cmpB_same (a : Int) (x y : List Int) : cmpB (a :: x) (a :: y) = cmpB x y := by rw [cmpB_cons, if_neg (by omega), if_neg (by omega)]
theorem cmpB_lt {a b : Int} (h : a < b) (x y : List Int) : cmpB (a :: x) (b :: y) = -1 := by rw [cmpB_cons, if_pos h]
theorem cmpB_gt {a b : Int} (h : b < a) (x y : List Int) : cmpB (a :: x) (b :: y) = 1 := by rw [cmpB_cons, if_neg (by omega), if_pos h]
/-- the first, or else the second -/
def orElse (a b : Int) : Int := if a ≠ 0 then a else b
theorem orElse_zero (b : Int) : orElse 0 b = b := by simp [orElse]
theorem orElse_ne {a : Int} (h : a ≠ 0) (b : Int) : orElse a b = a := by simp [orElse, h]

theorem cmpI_lt {x y : Int} (h : x < y) : cmpI x y = -1 := by rw [cmpI, if_pos h]
theorem cmpI_gt {x y : Int} (h : y < x) : cmpI x y = 1 := by rw [cmpI, if_neg (by omega), if_pos h]
theorem cmpI_same (x : Int) : cmpI x x = 0 := by rw [cmpI, if_neg (by omega), if_neg (by omega)]
theorem u8_lt {a b : Int} (ha : 0 ≤ a ∧ a < 256) (hb : 0 ≤ b ∧ b < 256) : (UInt8.ofNat a.toNat < UInt8.ofNat b.toNat) ↔ a < b := by
  rw [UInt8.lt_iff_toNat_lt, UInt8.toNat_ofNat', UInt8.toNat_ofNat', Nat.mod_eq_of_lt (by omega), Nat.mod_eq_of_lt (by omega)]
  omega
theorem u8_eq {a b : Int} (ha : 0 ≤ a ∧ a < 256) (hb : 0 ≤ b ∧ b < 256) : (UInt8.ofNat a.toNat = UInt8.ofNat b.toNat) ↔ a = b := by
  constructor
  · intro h
    have h2 := congrArg UInt8.toNat h
    rw [UInt8.toNat_ofNat', UInt8.toNat_ofNat', Nat.mod_eq_of_lt (by omega), Nat.mod_eq_of_lt (by omega)] at h2
    omega
  · intro h; rw [h]
theorem u8_beq {a b : Int} (ha : 0 ≤ a ∧ a < 256) (hb : 0 ≤ b ∧ b < 256) : (UInt8.ofNat a.toNat == UInt8.ofNat b.toNat) = decide (a = b) := by
  by_cases h : a = b
  · subst h; simp
  · rw [decide_eq_false h, beq_eq_false_iff_ne]
    exact fun e => h ((u8_eq ha hb).1 e)
def toU8 (zs : List Int) : List UInt8 := zs.map fun z => UInt8.ofNat z.toNat
theorem cmp3_eq : ∀ (A B : List Int), (∀ z ∈ A, 0 ≤ z ∧ z < 256) → (∀ z ∈ B, 0 ≤ z ∧ z < 256) → cmp3 (toU8 A) (toU8 B) = cmpB A B := by
  intro A
  induction A with
  | nil =>
    intro B _ _
    cases B with
    | nil => simp [toU8, cmp3, cmpB, Op.bytesLess]
    | cons b B => simp [toU8, cmp3, cmpB, Op.bytesLess]
  | cons a A ih =>
    intro B hA hB
    cases B with
    | nil => simp [toU8, cmp3, cmpB, Op.bytesLess]
    | cons b B =>
      have ha := hA a (by simp)
      have hb := hB b (by simp)
      have hr := ih B (fun z hz => hA z (by simp [hz])) (fun z hz => hB z (by simp [hz]))
      have h1 : Op.bytesLess (toU8 (a :: A)) (toU8 (b :: B)) = (decide (a < b) || (decide (a = b) && Op.bytesLess (toU8 A) (toU8 B))) := by
        show (decide (UInt8.ofNat a.toNat < UInt8.ofNat b.toNat) || (UInt8.ofNat a.toNat == UInt8.ofNat b.toNat && Op.bytesLess (toU8 A) (toU8 B))) = _
        rw [decide_eq_decide.2 (u8_lt ha hb), u8_beq ha hb]
      have h2 : (toU8 (a :: A) == toU8 (b :: B)) = (decide (a = b) && (toU8 A == toU8 B)) := by
        show (UInt8.ofNat a.toNat == UInt8.ofNat b.toNat && (toU8 A == toU8 B)) = _
        rw [u8_beq ha hb]
      unfold cmp3 at hr ⊢
      rw [h1, h2, cmpB_cons]
      by_cases h : a < b
      · simp [h]
      · by_cases h' : b < a
        · have : ¬ a = b := by omega
          simp [h, h', this]
        · obtain rfl : a = b := by omega
          simp only [h, decide_false, Bool.false_or, decide_true, Bool.true_and, if_false]
          exact hr
theorem strOf_list (zs : List Int) : (strOf zs).toList = toU8 zs := by
  have key : ∀ (zs : List Int) (r : ByteArray), (zs.foldl (fun r n => r.push (UInt8.ofNat n.toNat)) r).data.toList = r.data.toList ++ toU8 zs := by
    intro zs
    induction zs with
    | nil => intro r; simp [toU8]
    | cons z zs ih =>
      intro r
      rw [List.foldl_cons, ih]
      simp [toU8, ByteArray.push]
  rw [ByteArray.toList_eq]
  unfold strOf
  have := key zs ByteArray.empty
  simpa using this

/-- n bytes, the highest first -/
def beN : Nat → Nat → List Int
  | 0, _ => []
  | n + 1, m => beN n (m / 256) ++ [((m % 256 : Nat) : Int)]
theorem be8_eq (m : Nat) : be8 m = beN 8 m := by simp [be8, beN, Nat.div_div_eq_div_mul]
theorem beN_cmp : ∀ (n m m2 : Nat) (x y : List Int), m < 256 ^ n → m2 < 256 ^ n → cmpB (beN n m ++ x) (beN n m2 ++ y) = orElse (cmpI m m2) (cmpB x y) := by
  intro n
  induction n with
  | zero =>
    intro m m2 x y h h2
    obtain rfl : m = 0 := by simpa using h
    obtain rfl : m2 = 0 := by simpa using h2
    simp [beN, cmpI, orElse]
  | succ n ih =>
    intro m m2 x y h h2
    rw [Nat.pow_succ] at h h2
    show cmpB (beN n (m / 256) ++ [((m % 256 : Nat) : Int)] ++ x) (beN n (m2 / 256) ++ [((m2 % 256 : Nat) : Int)] ++ y) = _
    rw [List.append_assoc, List.append_assoc, ih _ _ _ _ (by omega) (by omega)]
    simp only [List.singleton_append]
    by_cases a : m / 256 < m2 / 256
    · rw [cmpI_lt (show ((m / 256 : Nat) : Int) < ((m2 / 256 : Nat) : Int) by omega), cmpI_lt (show (m : Int) < (m2 : Int) by omega), orElse_ne (by decide), orElse_ne (by decide)]
    · by_cases b : m2 / 256 < m / 256
      · rw [cmpI_gt (show ((m2 / 256 : Nat) : Int) < ((m / 256 : Nat) : Int) by omega), cmpI_gt (show (m2 : Int) < (m : Int) by omega), orElse_ne (by decide), orElse_ne (by decide)]
      · have e : m / 256 = m2 / 256 := by omega
        rw [e, cmpI_same, orElse_zero]
        by_cases c : m % 256 < m2 % 256
        · rw [cmpB_lt (by omega), cmpI_lt (show (m : Int) < (m2 : Int) by omega), orElse_ne (by decide)]
        · by_cases d : m2 % 256 < m % 256
          · rw [cmpB_gt (by omega), cmpI_gt (show (m2 : Int) < (m : Int) by omega), orElse_ne (by decide)]
          · obtain rfl : m = m2 := by omega
            rw [cmpB_same, cmpI_same, orElse_zero]
theorem place_cmp (i i2 : Int) (x y : List Int) (h0 : -9223372036854775808 ≤ i) (h1 : i ≤ 9223372036854775807) (h2 : -9223372036854775808 ≤ i2) (h3 : i2 ≤ 9223372036854775807) : cmpB (placeB i ++ x) (placeB i2 ++ y) = orElse (cmpI i i2) (cmpB x y) := by
  unfold placeB
  rw [be8_eq, be8_eq, beN_cmp 8 _ _ x y (by omega) (by omega)]
  congr 1
  unfold cmpI
  by_cases a : i < i2
  · rw [if_pos a, if_pos (by omega)]
  · rw [if_neg a, if_neg (by omega)]
    by_cases b : i2 < i
    · rw [if_pos b, if_pos (by omega)]
    · rw [if_neg b, if_neg (by omega)]

theorem esc_cons (b : UInt8) (l : List UInt8) : escB (b :: l) = (if b.toNat = 0 then [0, 255] else [(b.toNat : Int)]) ++ escB l := by simp [escB]
theorem esc_cmp : ∀ (s s2 : List UInt8) (x y : List Int), cmpB (escB s ++ 0 :: 0 :: x) (escB s2 ++ 0 :: 0 :: y) = orElse (Go.Lib.compareBytes s s2) (cmpB x y) := by
  intro s
  induction s with
  | nil =>
    intro s2 x y
    cases s2 with
    | nil => simp [escB, Go.Lib.compareBytes, cmpB_same, orElse]
    | cons b s2 =>
      rw [esc_cons]
      by_cases hb : b.toNat = 0
      · rw [if_pos hb]
        simp only [escB, List.flatMap_nil, List.nil_append, List.cons_append, cmpB_same]
        rw [cmpB_lt (by omega)]
        simp [Go.Lib.compareBytes, orElse]
      · rw [if_neg hb]
        simp only [escB, List.flatMap_nil, List.nil_append, List.cons_append]
        rw [cmpB_lt (by omega)]
        simp [Go.Lib.compareBytes, orElse]
  | cons a s ih =>
    intro s2 x y
    cases s2 with
    | nil =>
      rw [esc_cons]
      by_cases hb : a.toNat = 0
      · rw [if_pos hb]
        simp only [escB, List.flatMap_nil, List.nil_append, List.cons_append, cmpB_same]
        rw [cmpB_gt (by omega)]
        simp [Go.Lib.compareBytes, orElse]
      · rw [if_neg hb]
        simp only [escB, List.flatMap_nil, List.nil_append, List.cons_append]
        rw [cmpB_gt (by omega)]
        simp [Go.Lib.compareBytes, orElse]
    | cons b s2 =>
      rw [esc_cons, esc_cons]
      show _ = orElse (if a < b then -1 else if b < a then 1 else Go.Lib.compareBytes s s2) _
      by_cases hab : a < b
      · rw [if_pos hab]
        rw [UInt8.lt_iff_toNat_lt] at hab
        rw [if_neg (show ¬ b.toNat = 0 by omega)]
        by_cases ha : a.toNat = 0
        · rw [if_pos ha]
          simp only [List.cons_append, List.nil_append]
          rw [cmpB_lt (by omega)]; simp [orElse]
        · rw [if_neg ha]
          simp only [List.cons_append, List.nil_append]
          rw [cmpB_lt (by omega)]; simp [orElse]
      · rw [if_neg hab]
        by_cases hba : b < a
        · rw [if_pos hba]
          rw [UInt8.lt_iff_toNat_lt] at hba
          rw [if_neg (show ¬ a.toNat = 0 by omega)]
          by_cases hb : b.toNat = 0
          · rw [if_pos hb]
            simp only [List.cons_append, List.nil_append]
            rw [cmpB_gt (by omega)]; simp [orElse]
          · rw [if_neg hb]
            simp only [List.cons_append, List.nil_append]
            rw [cmpB_gt (by omega)]; simp [orElse]
        · rw [if_neg hba]
          rw [UInt8.lt_iff_toNat_lt] at hab hba
          have e : a.toNat = b.toNat := by omega
          rw [e]
          by_cases hb : b.toNat = 0
          · rw [if_pos hb]
            simp only [List.cons_append, List.nil_append, cmpB_same]
            exact ih s2 x y
          · rw [if_neg hb]
            simp only [List.cons_append, List.nil_append, cmpB_same]
            exact ih s2 x y

theorem rank_cmp : ∀ (t u : VT) (x y : List Int), Val t → Val u → cmpB (rankB t ++ x) (rankB u ++ y) = orElse (ordV t u) (cmpB x y) := by
  intro t
  induction t with
  | nil => intro u x y h; exact h.elim
  | mk k i s n p c f ih =>
    intro u x y hv hu
    cases u with
    | nil => exact hu.elim
    | mk k2 i2 s2 n2 p2 c2 f2 =>
      by_cases hk : k = k2
      · subst hk
        have h1 := shp_of hv.1.1
        have h2 := shp_of hu.1.1
        by_cases k1 : k = 1
        · subst k1
          rw [ordV_ints, rankB_eq, rankB_eq, if_pos rfl, if_pos rfl, List.cons_append, List.cons_append, cmpB_same]
          exact place_cmp i i2 x y hv.1.2.2.2.1 hv.1.2.2.2.2 hu.1.2.2.2.1 hu.1.2.2.2.2
        by_cases k2 : k = 2
        · subst k2
          rw [ordV_texts, rankB_eq, rankB_eq, if_neg (by decide), if_pos rfl, if_neg (by decide), if_pos rfl, List.cons_append, List.cons_append, cmpB_same, List.append_assoc, List.append_assoc]
          exact esc_cmp s.data.toList s2.data.toList x y
        rw [ordV_lists k i s n p c f i2 s2 n2 p2 c2 f2 k1 k2]
        by_cases k3 : k = 3
        · subst k3
          rw [rankB_eq, rankB_eq, if_neg (by decide), if_neg (by decide), if_pos rfl, if_neg (by decide), if_neg (by decide), if_pos rfl, List.cons_append, List.cons_append, cmpB_same, List.append_assoc, List.append_assoc]
          have key : ∀ m, m ≤ n → m ≤ n2 → ∀ X Y, cmpB (ranksN f m ++ X) (ranksN f2 m ++ Y) = orElse (firstN (fun j => ordV (f j) (f2 j)) m) (cmpB X Y) := by
            intro m
            induction m with
            | zero => intro _ _ X Y; simp [ranksN, firstN, orElse]
            | succ m ihm =>
              intro hm hm2 X Y
              rw [ranksN_succ, ranksN_succ, List.append_assoc, List.append_assoc, ihm (by omega) (by omega), ih m (f2 m) X Y (hv.2 m (by omega)) (hu.2 m (by omega))]
              by_cases hz : firstN (fun j => ordV (f j) (f2 j)) m = 0
              · rw [hz, orElse_zero, firstN_succ hz]
              · rw [orElse_ne hz, firstN_stuck (Nat.le_succ m) hz, orElse_ne hz]
          have pos : ∀ q, Val q → ∃ a r, rankB q = a :: r ∧ 0 < a := by
            intro q hq
            cases q with
            | nil => exact hq.elim
            | mk a b c d e f g =>
              refine ⟨a + 1, _, rankB_eq a b c d e f g, ?_⟩
              have := hq.1.1
              simp [fitB] at this
              omega
          have more : ∀ (h : Nat → VT) (a b : Nat), a < b → (∀ j, j < b → Val (h j)) → ∃ q r, ranksN h b = ranksN h a ++ q :: r ∧ 0 < q := by
            intro h a b hab hval
            have hp : ∀ e, a + 1 + e ≤ b → ∃ r, ranksN h (a + 1 + e) = ranksN h (a + 1) ++ r := by
              intro e
              induction e with
              | zero => intro _; exact ⟨[], by simp⟩
              | succ e ihe =>
                intro he
                obtain ⟨r, hr⟩ := ihe (by omega)
                exact ⟨r ++ rankB (h (a + 1 + e)), by rw [show a + 1 + (e + 1) = a + 1 + e + 1 by omega, ranksN_succ, hr, List.append_assoc]⟩
            obtain ⟨r, hr⟩ := hp (b - (a + 1)) (by omega)
            rw [show a + 1 + (b - (a + 1)) = b by omega] at hr
            obtain ⟨q, r2, hq, hpos⟩ := pos (h a) (hval a hab)
            exact ⟨q, r2 ++ r, by rw [hr, ranksN_succ, hq, List.append_assoc]; rfl, hpos⟩
          show cmpB (ranksN f n ++ ([0] ++ x)) (ranksN f2 n2 ++ ([0] ++ y)) = orElse (orElse (firstN (fun j => ordV (f j) (f2 j)) (min n n2)) (cmpI n n2)) (cmpB x y)
          have assoc : ∀ a b c, orElse (orElse a b) c = orElse a (orElse b c) := by
            intro a b c
            by_cases ha : a = 0
            · rw [ha, orElse_zero, orElse_zero]
            · rw [orElse_ne ha, orElse_ne ha, orElse_ne ha]
          rw [assoc]
          by_cases hn : n < n2
          · obtain ⟨q, r, hq, hpos⟩ := more f2 n n2 hn hu.2
            rw [hq, List.append_assoc, key n (Nat.le_refl _) (by omega), show min n n2 = n by omega, cmpI_lt (by omega), orElse_ne (show (-1 : Int) ≠ 0 by decide)]
            congr 1
            exact cmpB_lt hpos _ _
          · by_cases hn2 : n2 < n
            · obtain ⟨q, r, hq, hpos⟩ := more f n2 n hn2 hv.2
              rw [hq, List.append_assoc, key n2 (by omega) (Nat.le_refl _), show min n n2 = n2 by omega, cmpI_gt (by omega), orElse_ne (show (1 : Int) ≠ 0 by decide)]
              congr 1
              exact cmpB_gt hpos _ _
            · obtain rfl : n = n2 := by omega
              rw [key n (Nat.le_refl _) (Nat.le_refl _), show min n n = n by omega, cmpI_same, orElse_zero]
              first | rfl | (congr 1; exact cmpB_same 0 x y)
        · have k0 : k = 0 := by have := hv.1.1; simp [fitB] at this; omega
          subst k0
          have e1 : n = 0 := by have := hv.1.1; simp [fitB] at this; omega
          have e2 : n2 = 0 := by have := hu.1.1; simp [fitB] at this; omega
          subst e1 e2
          rw [rankB_eq, rankB_eq, if_neg (by decide), if_neg (by decide), if_neg (by decide), if_neg (by decide), if_neg (by decide), if_neg (by decide), List.cons_append, List.cons_append, cmpB_same]
          simp [ordL, firstN, cmpI, orElse]
      · rw [ordV_kinds k k2 i s n p c f i2 s2 n2 p2 c2 f2 hk, rankB_eq, rankB_eq, List.cons_append, List.cons_append, cmpB_cons]
        unfold cmpI
        by_cases a : k < k2
        · rw [if_pos (show k + 1 < k2 + 1 by omega), if_pos a, orElse_ne (by decide)]
        · rw [if_neg (show ¬ k + 1 < k2 + 1 by omega), if_neg a, if_pos (show k2 + 1 < k + 1 by omega), if_pos (show k2 < k by omega), orElse_ne (by decide)]

theorem rank_byte : ∀ t : VT, Val t → ∀ z ∈ rankB t, 0 ≤ z ∧ z < 256 := by
  intro t
  induction t with
  | nil => intro h; exact h.elim
  | mk k i s n p c f ih =>
    intro hv z hz
    have hk : 0 ≤ k ∧ k ≤ 3 := by have := hv.1.1; simp [fitB] at this; omega
    rw [rankB_eq, List.mem_cons] at hz
    rcases hz with rfl | hz
    · omega
    by_cases k1 : k = 1
    · rw [if_pos k1] at hz
      simp [placeB, be8] at hz
      rcases hz with rfl | rfl | rfl | rfl | rfl | rfl | rfl | rfl <;> omega
    rw [if_neg k1] at hz
    by_cases k2 : k = 2
    · rw [if_pos k2] at hz
      rcases List.mem_append.1 hz with hz | hz
      · obtain ⟨b, _, hb⟩ := List.mem_flatMap.1 hz
        have := b.toNat_lt
        split at hb
        · simp at hb; omega
        · simp at hb; omega
      · simp at hz; omega
    rw [if_neg k2] at hz
    by_cases k3 : k = 3
    · rw [if_pos k3] at hz
      rcases List.mem_append.1 hz with hz | hz
      · obtain ⟨j, hj, hb⟩ := List.mem_flatMap.1 hz
        exact ih j (hv.2 j (List.mem_range.1 hj)) z hb
      · simp at hz; omega
    · rw [if_neg k3] at hz; cases hz

/-- the two ways of asking give one answer -/
theorem order_rank {t u : VT} (ht : Val t) (hu : Val u) : cmp3 (strOf (rankB t)).toList (strOf (rankB u)).toList = ordV t u := by
  rw [strOf_list, strOf_list, cmp3_eq _ _ (rank_byte t ht) (rank_byte u hu)]
  have h := rank_cmp t u [] [] ht hu
  simp only [List.append_nil] at h
  rw [h]
  show (if ordV t u ≠ 0 then ordV t u else 0) = _
  split
  · rfl
  · rename_i h; exact (Decidable.of_not_not h).symm
end Go.Proofs.Ytehpdhhlggegdaa
