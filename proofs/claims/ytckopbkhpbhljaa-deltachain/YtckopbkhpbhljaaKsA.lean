import Derived.Test.YtckopbkhpbhljaaPack2
import Derived.Lib.Strings
namespace Go.Proofs.Ytckopbkhpbhljaa
open Go.RowKit
set_option maxRecDepth 8000
/-- yes or no, and which -/
def YesNo (P : Prop) (e : Ending) (w w' : World) : Prop := ∃ r : Bool, e = .returned (.bool r) ∧ (r = true ↔ P) ∧ Below w.heap.size w w'
theorem yn_no {P : Prop} {w w' : World} (h : ¬ P) (hb : Below w.heap.size w w') : YesNo P (.returned (.bool false)) w w' := ⟨false, rfl, ⟨fun e => (by cases e), fun e => absurd e h⟩, hb⟩
theorem yn_yes {P : Prop} {w w' : World} (h : P) (hb : Below w.heap.size w w') : YesNo P (.returned (.bool true)) w w' := ⟨true, rfl, ⟨fun _ => h, fun _ => rfl⟩, hb⟩

set_option maxHeartbeats 1000000 in
theorem yValue (t : VT) : ∀ (u : VT) (w : World) (S R : Nat → Prop), VT.In w S t → VT.In w R u →
    Calls Try.prog 89 #[t.val, u.val] w fun e w' => YesNo (VT.Alike t u) e w w' := by
  induction t with
  | nil => intro u w S R hin; exact hin.elim
  | mk k i s n p c f ih =>
    intro u w S R hin hiu
    obtain ⟨k2, i2, s2, n2, p2, c2, f2, rfl⟩ := hiu.mk_
    by_cases h1 : k = k2
    case neg =>
      have HN := hid (fun h : VT.Alike (.mk k i s n p c f) (.mk k2 i2 s2 n2 p2 c2 f2) => h1 h.1.symm)
      simp only [VT.val, VT.kind_mk, VT.int_mk, VT.text_mk, VT.p_mk, VT.n_mk, VT.c_mk]
      clear hin hiu ih
      go_enter Try.func89, Try.ntmps89
      go_wp2
      go_ret
      exact yn_no HN.out (((Below.refl _ _).alloc (Nat.le_refl _) _).alloc (by simp) _)
    by_cases h2 : i = i2
    case neg =>
      have HN := hid (fun h : VT.Alike (.mk k i s n p c f) (.mk k2 i2 s2 n2 p2 c2 f2) => h2 h.2.1.symm)
      simp only [VT.val, VT.kind_mk, VT.int_mk, VT.text_mk, VT.p_mk, VT.n_mk, VT.c_mk]
      subst h1
      clear hin hiu ih
      go_enter Try.func89, Try.ntmps89
      go_wp2
      go_ret
      exact yn_no HN.out (((Below.refl _ _).alloc (Nat.le_refl _) _).alloc (by simp) _)
    by_cases h3 : s = s2
    case neg =>
      have HN := hid (fun h : VT.Alike (.mk k i s n p c f) (.mk k2 i2 s2 n2 p2 c2 f2) => h3 h.2.2.1.symm)
      have h3b : (s.toList == s2.toList) = false := by
        rw [beq_eq_false_iff_ne]
        intro h
        rw [Go.Lib.toList_data, Go.Lib.toList_data] at h
        exact h3 (ByteArray.ext (Array.ext' h))
      simp only [VT.val, VT.kind_mk, VT.int_mk, VT.text_mk, VT.p_mk, VT.n_mk, VT.c_mk]
      subst h1 h2
      clear hin hiu ih
      go_enter Try.func89, Try.ntmps89
      go_wp2
      go_ret
      exact yn_no HN.out (((Below.refl _ _).alloc (Nat.le_refl _) _).alloc (by simp) _)
    by_cases h4 : n = n2
    case neg =>
      have HN := hid (fun h : VT.Alike (.mk k i s n p c f) (.mk k2 i2 s2 n2 p2 c2 f2) => h4 h.2.2.2.1.symm)
      have h4' : ((n : Int) != (n2 : Int)) = true := by rw [bne_iff_ne]; omega
      simp only [VT.val, VT.kind_mk, VT.int_mk, VT.text_mk, VT.p_mk, VT.n_mk, VT.c_mk]
      subst h1 h2 h3
      clear hin hiu ih
      go_enter Try.func89, Try.ntmps89
      go_wp2
      go_ret
      exact yn_no HN.out (((Below.refl _ _).alloc (Nat.le_refl _) _).alloc (by simp) _)
    subst h1 h2 h3 h4
    have hnn := hin.fit.nn
    simp only [VT.n_mk] at hnn
    simp only [VT.val, VT.kind_mk, VT.int_mk, VT.text_mk, VT.p_mk, VT.n_mk, VT.c_mk]
    have HI : Hid (VT.In w S (.mk k i s n p c f)) := hin
    have HU : Hid (VT.In w R (.mk k i s n p2 c2 f2)) := hiu
    clear hin hiu
    go_enter Try.func89, Try.ntmps89
    go_wp2_with fail
    have hS1 : Box (w.alloc (.cells #[.int .i64 k, .int .i64 i, .string s, .slice p n c] 60)) w.heap.size #[.int .i64 k, .int .i64 i, .string s, .slice p n c] 60 := Box.new _ _ _
    have hS2 := hS1.below ((Below.refl _ _).alloc (Nat.le_refl _) (.cells #[.int .i64 k, .int .i64 i, .string s, .slice p2 n c2] 60))
    have hS3 : Box ((w.alloc (.cells #[.int .i64 k, .int .i64 i, .string s, .slice p n c] 60)).alloc (.cells #[.int .i64 k, .int .i64 i, .string s, .slice p2 n c2] 60)) (w.heap.size + 1) #[.int .i64 k, .int .i64 i, .string s, .slice p2 n c2] 60 := by
      have := Box.new (w.alloc (.cells #[.int .i64 k, .int .i64 i, .string s, .slice p n c] 60)) #[.int .i64 k, .int .i64 i, .string s, .slice p2 n c2] 60
      simpa using this
    have hS4 : Below w.heap.size w ((w.alloc (.cells #[.int .i64 k, .int .i64 i, .string s, .slice p n c] 60)).alloc (.cells #[.int .i64 k, .int .i64 i, .string s, .slice p2 n c2] 60)) := ((Below.refl _ _).alloc (Nat.le_refl _) _).alloc (by simp) _
    go_loopw [5] (fun x wr => ∃ j : Nat, j ≤ n ∧ x = .int .i64 j ∧ (∀ q, q < j → VT.Alike (f q) (f2 q)) ∧ Box wr w.heap.size #[.int .i64 k, .int .i64 i, .string s, .slice p n c] 60 ∧ Box wr (w.heap.size + 1) #[.int .i64 k, .int .i64 i, .string s, .slice p2 n c2] 60 ∧ Below w.heap.size w wr) (fun x _ => n - (intOf x).toNat)
    case atStart => exact ⟨0, Nat.zero_le _, rfl, fun q hq => absurd hq (by omega), hS2, hS3, hS4⟩
    case round =>
      obtain ⟨j, hj, rfl, hA, hB0, hB1, hbel⟩ := hrel
      have HA := hid hA
      clear hA
      clear hS1 hS2 hS3 hS4
      have x3 := hB0.cell 3
      have y3 := hB1.cell 3
      simp at x3 y3
      by_cases hlt : j < n
      · have hlt' : (j : Int) < (n : Int) := by omega
        obtain ⟨bb, o, hp, hSb, hbl, hat⟩ := HI.out.at_ (show 0 < (VT.mk k i s n p c f).n from by simp only [VT.n]; omega)
        obtain ⟨bb2, o2, hp2, hSb2, hbl2, hat2⟩ := HU.out.at_ (show 0 < (VT.mk k i s n p2 c2 f2).n from by simp only [VT.n]; omega)
        simp only [VT.p_mk] at hp hp2
        subst hp hp2
        obtain ⟨a0, a1, a2, a3⟩ := (hat j hlt).kept (hbel.block bb hbl)
        obtain ⟨b0, b1, b2, b3⟩ := (hat2 j hlt).kept (hbel.block bb2 hbl2)
        simp only [VT.item_mk] at a0 a1 a2 a3 b0 b1 b2 b3
        have HC : Hid (∀ W, Below wr.heap.size wr W → Calls Try.prog 89 #[(f j).val, (f2 j).val] W fun e w' => YesNo (VT.Alike (f j) (f2 j)) e W w') := fun W hW =>
          ih j (f2 j) W (fun b => S b ∧ b < w.heap.size) (fun b => R b ∧ b < w.heap.size) ((((HI.out.sub hlt).mono fun b hb hl => ⟨hb, hl⟩).kept hbel.size (fun b hb _ => hbel.block b hb.2)).below hW) ((((HU.out.sub hlt).mono fun b hb hl => ⟨hb, hl⟩).kept hbel.size (fun b hb _ => hbel.block b hb.2)).below hW)
        unfold VT.val at HC
        have HB : Hid (Box wr w.heap.size #[.int .i64 k, .int .i64 i, .string s, .slice (some ⟨bb, o, none⟩) n c] 60 ∧ Box wr (w.heap.size + 1) #[.int .i64 k, .int .i64 i, .string s, .slice (some ⟨bb2, o2, none⟩) n c2] 60) := ⟨hB0, hB1⟩
        have HFG := hid (show True from trivial)
        obtain ⟨xk, xi, xs, xn, xp, xc, xf, hx⟩ := (HI.out.sub hlt).mk_
        obtain ⟨yk, yi, ys, yn, yp, yc, yf, hy⟩ := (HU.out.sub hlt).mk_
        simp only [VT.item_mk] at hx hy
        clear hat hat2 ih HI HU hB0 hB1
        simp only [hx, hy, VT.kind_mk, VT.int_mk, VT.text_mk, VT.p_mk, VT.n_mk, VT.c_mk] at a0 a1 a2 a3 b0 b1 b2 b3
        have HC2 : Hid (∀ W, Below wr.heap.size wr W → Calls Try.prog 89 #[.agg #[.int .i64 xk, .int .i64 xi, .string xs, .slice xp xn xc], .agg #[.int .i64 yk, .int .i64 yi, .string ys, .slice yp yn yc]] W fun e w' => YesNo (VT.Alike (f j) (f2 j)) e W w') := fun W hW => by
          have h := HC.out W hW
          simp only [hx, hy, VT.kind_mk, VT.int_mk, VT.text_mk, VT.p_mk, VT.n_mk, VT.c_mk] at h ⊢
          exact h
        clear hx hy HC HFG
        have HW : Hid (∀ w4, Below wr.heap.size wr.drew w4 → Box w4 w.heap.size #[.int .i64 k, .int .i64 i, .string s, .slice (some ⟨bb, o, none⟩) n c] 60 ∧ Box w4 (w.heap.size + 1) #[.int .i64 k, .int .i64 i, .string s, .slice (some ⟨bb2, o2, none⟩) n c2] 60 ∧ Below w.heap.size w w4) := fun w4 hb4 => by
          have hk : Below wr.heap.size wr w4 := (Below.refl wr.heap.size wr).drew.trans hb4
          exact ⟨HB.out.1.below hk, HB.out.2.below hk, hbel.trans (hk.mono hbel.size)⟩
        go_wp2_with fail
        go_region_with (go_at_call 89; refine (HC2.out _ ?_).mono ?_; exact (Below.refl _ _).drew; intro e w4 hP4; obtain ⟨r4, rfl, hr4, hb4⟩ := hP4)
        all_goals
          cases r4 with
          | false =>
            have HN : Hid (¬ VT.Alike (.mk k i s n (some ⟨bb, o, none⟩) c f) (.mk k i s n (some ⟨bb2, o2, none⟩) c2 f2)) := fun h => absurd (hr4.2 (h.2.2.2.2 j hlt)) (by decide)
            have HBe := hid (HW.out w4 hb4).2.2
            clear hr4 hb4
            go_wp2
            go_ret
            exact yn_no HN.out HBe.out
          | true =>
            have HA2 : Hid (∀ q, q < j + 1 → VT.Alike (f q) (f2 q)) := fun q hq => by
              by_cases h : q < j
              · exact HA.out q h
              · obtain rfl : q = j := by omega
                exact hr4.1 rfl
            have HBe := hid (HW.out w4 hb4)
            clear hr4 hb4
            go_wp2
            go_roundw
            case rel => exact ⟨j + 1, by omega, by go_num, HA2.out, HBe.out.1, HBe.out.2.1, HBe.out.2.2⟩
            case measure => simp [intOf]; omega
      · obtain rfl : j = n := by omega
        clear ih HI HU hB0 hB1
        go_wp2
        go_ret
        exact yn_yes ⟨rfl, rfl, rfl, rfl, HA.out⟩ hbel

theorem str_ne {s s2 : ByteArray} (h : s ≠ s2) : (s.toList == s2.toList) = false := by
  rw [beq_eq_false_iff_ne]
  intro h2
  rw [Go.Lib.toList_data, Go.Lib.toList_data] at h2
  exact h (ByteArray.ext (Array.ext' h2))
theorem int_ne {n m : Nat} (h : n ≠ m) : ((n : Int) != (m : Int)) = true := by rw [bne_iff_ne]; omega
end Go.Proofs.Ytckopbkhpbhljaa
