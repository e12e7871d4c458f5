import Derived.Test.YtckopbkhpbhljaaPack34
import Derived.Test.YtckopbkhpbhljaaPack12
import Derived.Deep.DeepCutAuto
namespace Go.Proofs.Ytckopbkhpbhljaa
open Go.RowKit
set_option maxRecDepth 8000

set_option maxHeartbeats 1000000 in
theorem compare_any (t u : VT) (w : World) (S R : Nat → Prop) (hin : VT.In w S t) (hiu : VT.In w R u) :
    Calls Try.prog 63 #[t.val, u.val] w fun e w' => e = .returned (.int .i64 (ordV (cleanT t) (cleanT u))) ∧ Below w.heap.size w w' := by
  have H1 : Hid (∀ W, Below w.heap.size w W → Calls Try.prog 79 #[t.val] W fun e w' => e = .returned (cleanT t).val ∧ Below W.heap.size W w') := fun W hW => orNone_any t W S (hin.below hW)
  have H2 : Hid (∀ W, Below w.heap.size w W → Calls Try.prog 79 #[u.val] W fun e w' => e = .returned (cleanT u).val ∧ Below W.heap.size W w') := fun W hW => orNone_any u W R (hiu.below hW)
  have H3 : Hid (∀ W, Below w.heap.size w W → Calls Try.prog 78 #[(cleanT t).val, (cleanT u).val] W fun e w' => e = .returned (.int .i64 (ordV (cleanT t) (cleanT u))) ∧ Below W.heap.size W w') := fun W hW => order_any (cleanT t) (cleanT u) W S R (cleanT_in (hin.below hW)) (cleanT_in (hiu.below hW))
  clear hin hiu
  generalize ordV (cleanT t) (cleanT u) = r at *
  generalize cleanT t = ct at *
  generalize cleanT u = cu at *
  unfold VT.val at H1 H2 H3 ⊢
  go_enter Try.func63, Try.ntmps63
  go_wp2_with fail
  have HW0 : Hid (Below w.heap.size w ((w.alloc (.cells #[.int .i64 t.kind, .int .i64 t.int, .string t.text, .slice t.p t.n t.c] 60)).alloc (.cells #[.int .i64 u.kind, .int .i64 u.int, .string u.text, .slice u.p u.n u.c] 60))) := ((Below.refl _ _).alloc (Nat.le_refl _) _).alloc (by simp) _
  have HB : Hid (∀ W, Below ((w.alloc (.cells #[.int .i64 t.kind, .int .i64 t.int, .string t.text, .slice t.p t.n t.c] 60)).alloc (.cells #[.int .i64 u.kind, .int .i64 u.int, .string u.text, .slice u.p u.n u.c] 60)).heap.size ((w.alloc (.cells #[.int .i64 t.kind, .int .i64 t.int, .string t.text, .slice t.p t.n t.c] 60)).alloc (.cells #[.int .i64 u.kind, .int .i64 u.int, .string u.text, .slice u.p u.n u.c] 60)) W → Box W (w.heap.size + 1) #[.int .i64 u.kind, .int .i64 u.int, .string u.text, .slice u.p u.n u.c] 60) := by
    intro W hW
    have h := Box.new (w.alloc (.cells #[.int .i64 t.kind, .int .i64 t.int, .string t.text, .slice t.p t.n t.c] 60)) #[.int .i64 u.kind, .int .i64 u.int, .string u.text, .slice u.p u.n u.c] 60
    rw [show (w.alloc (.cells #[.int .i64 t.kind, .int .i64 t.int, .string t.text, .slice t.p t.n t.c] 60)).heap.size = w.heap.size + 1 by simp] at h
    exact h.below hW
  go_region_with (first | (go_at_call 79; refine (H1.out _ HW0.out.drew).mono ?_; rintro e w1 ⟨rfl, hb1⟩; have y := HB.out w1 (by exact ((Below.refl _ _).drew).trans hb1); have hbw1 : Below w.heap.size w w1 := HW0.out.drew.trans (hb1.mono HW0.out.size); have x0 := y.cell 0; have x1 := y.cell 1; have x2 := y.cell 2; have x3 := y.cell 3; simp at x0 x1 x2 x3; clear y hb1) | (go_at_call 79; refine (H2.out _ hbw1).mono ?_; rintro e w2 ⟨rfl, hb2⟩; have hbw2 : Below w.heap.size w w2 := hbw1.trans (hb2.mono hbw1.size)) | (go_at_call 78; refine (H3.out _ hbw2).mono ?_; rintro e w3 ⟨rfl, hb3⟩; have hbw3 : Below w.heap.size w w3 := hbw2.trans (hb3.mono hbw2.size)))
  all_goals
    go_wp2
    go_ret
    exact ⟨rfl, hbw3⟩
end Go.Proofs.Ytckopbkhpbhljaa

namespace Go.Proofs.Ytckopbkhpbhljaa
open Go.RowKit
set_option maxRecDepth 8000

/-- two values compare as the same -/
def eq0 (t u : VT) : Bool := ordV (cleanT t) (cleanT u) == 0
/-- two cells have the same values -/
def eqV (t u : VT) : Bool := decide (t.n = u.n) && (List.range t.n).all fun j => eq0 (t.item j) (u.item j)
set_option maxHeartbeats 2000000 in
theorem sameOne (t u : VT) (w : World) (S R : Nat → Prop) (ht : VT.In w S t) (hu : VT.In w R u) : Calls Try.prog 62 #[.agg #[.int .i64 t.kind, .int .i64 t.int, .string t.text, .slice t.p t.n t.c], .agg #[.int .i64 u.kind, .int .i64 u.int, .string u.text, .slice u.p u.n u.c]] w fun e w' => e = .returned (.bool (eq0 t u)) ∧ Below w.heap.size w w' := by
  obtain ⟨W, hW⟩ : ∃ X, X = (w.alloc (.cells #[.int .i64 t.kind, .int .i64 t.int, .string t.text, .slice t.p t.n t.c] 60)).alloc (.cells #[.int .i64 u.kind, .int .i64 u.int, .string u.text, .slice u.p u.n u.c] 60) := ⟨_, rfl⟩
  have hB : Below w.heap.size w W := by rw [hW]; exact ((Below.refl _ _).alloc (Nat.le_refl _) _).alloc (by simp) _
  have HC := hid (compare_any t u W S R (ht.below hB) (hu.below hB))
  unfold VT.val at HC
  obtain ⟨r, hr⟩ : ∃ x, x = ordV (cleanT t) (cleanT u) := ⟨_, rfl⟩
  rw [← hr] at HC
  have HR : Hid (eq0 t u = (r == 0)) := by show _ = _; rw [hr]; rfl
  have HB := hid hB
  have HW := hid hW
  clear ht hu hB hW hr
  go_enter Try.func62, Try.ntmps62
  go_wp2_with fail
  rw [← HW.out]
  refine HC.out.mono ?_
  rintro e w1 ⟨rfl, hb1⟩
  have HBz : Hid (Below w.heap.size w w1) := HB.out.trans (hb1.mono HB.out.size)
  clear hb1
  go_wp2
  exact bodyPost_ret (v := .bool (r == 0)) (by simp [results, Try.results62, go_sem]) rfl ⟨by rw [HR.out], HBz.out⟩
set_option maxHeartbeats 4000000 in
theorem equalV (t u : VT) (w : World) (S R : Nat → Prop) (ht : VT.In w S t) (hu : VT.In w R u) : Calls Try.prog 61 #[.slice t.p t.n t.c, .slice u.p u.n u.c, .func (.func 62) #[] #[]] w fun e w' => e = .returned (.bool (eqV t u)) ∧ Below w.heap.size w w' := by
  obtain ⟨res, hres⟩ : ∃ r, r = eqV t u := ⟨_, rfl⟩
  rw [← hres]
  have HRes := hid hres
  have HT := hid ht
  have HU := hid hu
  have hnn := ht.fit.nn
  have hnu := hu.fit.nn
  clear ht hu hres
  by_cases hn : t.n = u.n
  · have hn' : ((t.n : Int) != (u.n : Int)) = false := by simp [hn]
    have HN := hid hn
    clear hn
    go_enter Try.func61, Try.ntmps61
    go_wp2_with fail
    go_loopw [17] (fun x wr => ∃ k : Nat, k ≤ t.n ∧ x = .int .i64 (k : Int) ∧ (∀ q, q < k → eq0 (t.item q) (u.item q) = true) ∧ Below w.heap.size w wr) (fun x _ => t.n - (intOf x).toNat)
    case atStart => exact ⟨0, Nat.zero_le _, rfl, fun q hq => absurd hq (by omega), Below.refl _ _⟩
    case round =>
      obtain ⟨k, hk, rfl, hal, hbel⟩ := hrel
      have HAl := hid hal
      have HB := hid hbel
      clear hal
      by_cases hlt : k < t.n
      · have hlt' : (k : Int) < (t.n : Int) := by omega
        have hlu : k < u.n := by have := HN.out; omega
        have hlu' : (k : Int) < (u.n : Int) := by omega
        obtain ⟨b1, o1, hp1, _, hl1, ha1⟩ := HT.out.at_ (by omega)
        obtain ⟨b2, o2, hp2, _, hl2, ha2⟩ := HU.out.at_ (by omega)
        obtain ⟨c0, c1, c2, c3⟩ := (ha1 k hlt).kept (hbel.block b1 hl1)
        obtain ⟨e0, e1, e2, e3⟩ := (ha2 k hlu).kept (hbel.block b2 hl2)
        have hl1' : b1 < wr.heap.size := Nat.lt_of_lt_of_le hl1 hbel.size
        have hl2' : b2 < wr.heap.size := Nat.lt_of_lt_of_le hl2 hbel.size
        rw [hp1, hp2]
        have HC : Hid (∀ W, Below wr.heap.size wr W → Calls Try.prog 62 #[.agg #[.int .i64 (t.item k).kind, .int .i64 (t.item k).int, .string (t.item k).text, .slice (t.item k).p (t.item k).n (t.item k).c], .agg #[.int .i64 (u.item k).kind, .int .i64 (u.item k).int, .string (u.item k).text, .slice (u.item k).p (u.item k).n (u.item k).c]] W fun e w' => e = .returned (.bool (eq0 (t.item k) (u.item k))) ∧ Below W.heap.size W w') := fun W hW => sameOne (t.item k) (u.item k) W S R (((HT.out.sub hlt).kept hbel.size (fun b _ hl => hbel.block b hl)).below hW) (((HU.out.sub hlu).kept hbel.size (fun b _ hl => hbel.block b hl)).below hW)
        clear ha1 ha2 hbel
        go_wp2_with fail
        refine (HC.out _ (((Below.refl _ _).alloc (Nat.le_refl _) _).alloc (by simp) _)).mono ?_
        rintro e w1 ⟨rfl, hb1⟩
        have HB1 : Hid (Below w.heap.size w w1) := HB.out.trans (((((Below.refl wr.heap.size wr).alloc (Nat.le_refl _) _).alloc (by simp) _).trans (hb1.mono (by simp; omega))).mono HB.out.size)
        clear hb1 c0 c1 c2 c3 e0 e1 e2 e3
        cases hx : eq0 (t.item k) (u.item k) with
        | true =>
          go_wp2
          go_roundw
          case rel =>
            refine ⟨k + 1, by omega, by go_num, fun q hq => ?_, HB1.out⟩
            by_cases hqk : q < k
            · exact HAl.out q hqk
            · obtain rfl : q = k := by omega
              exact hx
          case measure => simp [intOf]; omega
        | false =>
          have HE : Hid (res = false) := by
            show _ = _
            rw [HRes.out, eqV, Bool.and_eq_false_iff]
            right
            rw [List.all_eq_false]
            exact ⟨k, List.mem_range.2 hlt, by rw [hx]; simp⟩
          go_wp2
          exact bodyPost_ret (v := .bool false) (by simp [results, Try.results61, go_sem]) rfl ⟨by rw [HE.out], HB1.out⟩
      · obtain rfl : k = t.n := by omega
        have HE : Hid (res = true) := by
          show _ = _
          rw [HRes.out, eqV, Bool.and_eq_true]
          exact ⟨by simp [HN.out], List.all_eq_true.2 fun j hj => HAl.out j (List.mem_range.1 hj)⟩
        go_wp2
        exact bodyPost_ret (v := .bool true) (by simp [results, Try.results61, go_sem]) rfl ⟨by rw [HE.out], HB.out⟩
  · have hn' : ((t.n : Int) != (u.n : Int)) = true := by simp; omega
    have HE : Hid (res = false) := by show _ = _; rw [HRes.out, eqV]; simp [hn]
    go_enter Try.func61, Try.ntmps61
    go_wp2
    exact bodyPost_ret (v := .bool false) (by simp [results, Try.results61, go_sem]) rfl ⟨by rw [HE.out], Below.refl _ _⟩
set_option maxHeartbeats 1000000 in
theorem sameVals_any (t u : VT) (w : World) (S R : Nat → Prop) (ht : VT.In w S t) (hu : VT.In w R u) : Calls Try.prog 34 #[.slice t.p t.n t.c, .slice u.p u.n u.c] w fun e w' => e = .returned (.bool (eqV t u)) ∧ Below w.heap.size w w' := by
  have HC := hid (equalV t u w S R ht hu)
  clear ht hu
  go_enter Try.func34, Try.ntmps34
  go_wp2_with fail
  refine HC.out.mono ?_
  rintro e w1 ⟨rfl, hb1⟩
  have HB := hid hb1
  clear hb1
  go_wp2
  exact bodyPost_ret (v := .bool (eqV t u)) (by simp [results, Try.results34, go_sem]) rfl ⟨rfl, HB.out⟩
end Go.Proofs.Ytckopbkhpbhljaa
