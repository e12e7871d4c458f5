import Derived.Test.YtikfpoabaaiegaaPack3
import Derived.Test.YtikfpoabaaiegaaPack13
import Derived.Test.YtikfpoabaaiegaaPack5
namespace Go.Proofs.Ytikfpoabaaiegaa
open Go.RowKit
set_option maxRecDepth 8000

theorem chk_many {k i : Int} {s : ByteArray} {n : Nat} {p : Option Addr} {c : Nat} {f : Nat → VT} {d m : Nat} (h : 12 ≤ m) : chk (.mk k i s n p c f) d m = (22, m + 1) := by rw [chk_eq, if_pos h]
theorem chk_kind {k i : Int} {s : ByteArray} {n : Nat} {p : Option Addr} {c : Nat} {f : Nat → VT} {d m : Nat} (h : ¬ 12 ≤ m) (h2 : fitB k i s n = false) : chk (.mk k i s n p c f) d m = (20, m + 1) := by rw [chk_eq, if_neg h, if_pos h2]
theorem chk_deep {k i : Int} {s : ByteArray} {n : Nat} {p : Option Addr} {c : Nat} {f : Nat → VT} {d m : Nat} (h : ¬ 12 ≤ m) (h2 : ¬ fitB k i s n = false) (h3 : k = 3 ∧ 3 ≤ d) : chk (.mk k i s n p c f) d m = (23, m + 1) := by rw [chk_eq, if_neg h, if_neg h2, if_pos h3]
theorem chk_text {k i : Int} {s : ByteArray} {n : Nat} {p : Option Addr} {c : Nat} {f : Nat → VT} {d m : Nat} (h : ¬ 12 ≤ m) (h2 : ¬ fitB k i s n = false) (h3 : ¬ (k = 3 ∧ 3 ≤ d)) (h4 : 24 < s.size) : chk (.mk k i s n p c f) d m = (21, m + 1) := by rw [chk_eq, if_neg h, if_neg h2, if_neg h3, if_pos h4]
theorem chk_items {k i : Int} {s : ByteArray} {n : Nat} {p : Option Addr} {c : Nat} {f : Nat → VT} {d m : Nat} (h : ¬ 12 ≤ m) (h2 : ¬ fitB k i s n = false) (h3 : ¬ (k = 3 ∧ 3 ≤ d)) (h4 : ¬ 24 < s.size) (h5 : 6 < n) : chk (.mk k i s n p c f) d m = (22, m + 1) := by rw [chk_eq, if_neg h, if_neg h2, if_neg h3, if_neg h4, if_pos h5]
theorem chk_step {k i : Int} {s : ByteArray} {n : Nat} {p : Option Addr} {c : Nat} {f : Nat → VT} {d m : Nat} (h : ¬ 12 ≤ m) (h2 : ¬ fitB k i s n = false) (h3 : ¬ (k = 3 ∧ 3 ≤ d)) (h4 : ¬ 24 < s.size) (h5 : ¬ 6 < n) : chk (.mk k i s n p c f) d m = stepN (fun j m => chk (f j) (d + 1) m) (m + 1) n := by rw [chk_eq, if_neg h, if_neg h2, if_neg h3, if_neg h4, if_neg h5]

set_option maxHeartbeats 4000000 in
theorem checkPart_any (t : VT) : ∀ (w : World) (S : Nat → Prop) (b d m : Nat), VT.In w S t → ¬ S b → Box w b #[.int .i64 m] 3 → m ≤ 12 → d ≤ 3 →
    Calls Try.prog 137 #[t.val, .int .i64 d, .pointer (some ⟨b, 0, none⟩)] w fun e w' => e = .returned (.int .i64 (chk t d m).1) ∧ Box w' b #[.int .i64 (chk t d m).2] 3 ∧ But (fun k => k = b) w w' := by
  induction t with
  | nil => intro w S b d m hin; exact hin.elim
  | mk k i s n p c f ih =>
    intro w S b d m hin hS hb hm hd
    have hnn := hin.fit.nn
    simp only [VT.n_mk] at hnn
    simp only [VT.val, VT.kind_mk, VT.int_mk, VT.text_mk, VT.p_mk, VT.n_mk, VT.c_mk]
    have hc := hb.cell 0
    have hf := hb.frozen 0
    have hlt := hb.lt
    simp at hc
    have hW0 : But (fun k => k = b) w ((w.setCell ⟨b, 0, none⟩ (.int .i64 ((m : Int) + 1))).alloc (.cells #[.int .i64 k, .int .i64 i, .string s, .slice p n c] 24)) := ((But.refl (fun k => k = b) w).setCell (p := ⟨b, 0, none⟩) (fun _ => rfl) _).alloc _
    have hWb : Box ((w.setCell ⟨b, 0, none⟩ (.int .i64 ((m : Int) + 1))).alloc (.cells #[.int .i64 k, .int .i64 i, .string s, .slice p n c] 24)) b #[.int .i64 ((m + 1 : Nat) : Int)] 3 := by
      have h := hb.set 0 (.int .i64 ((m : Int) + 1))
      have h2 : Box (w.setCell ⟨b, 0, none⟩ (.int .i64 ((m : Int) + 1))) b #[.int .i64 ((m + 1 : Nat) : Int)] 3 := by simpa using h
      exact h2.below ((Below.refl _ _).alloc (Nat.le_refl _) _)
    have hWv : Box ((w.setCell ⟨b, 0, none⟩ (.int .i64 ((m : Int) + 1))).alloc (.cells #[.int .i64 k, .int .i64 i, .string s, .slice p n c] 24)) w.heap.size #[.int .i64 k, .int .i64 i, .string s, .slice p n c] 24 := by
      have h := Box.new (w.setCell ⟨b, 0, none⟩ (.int .i64 ((m : Int) + 1))) #[.int .i64 k, .int .i64 i, .string s, .slice p n c] 24
      simpa [World.setCell] using h
    have HF := fits_any k i s n p c ((w.setCell ⟨b, 0, none⟩ (.int .i64 ((m : Int) + 1))).alloc (.cells #[.int .i64 k, .int .i64 i, .string s, .slice p n c] 24))
    have HW : Hid (Box ((w.setCell ⟨b, 0, none⟩ (.int .i64 ((m : Int) + 1))).alloc (.cells #[.int .i64 k, .int .i64 i, .string s, .slice p n c] 24)) b #[.int .i64 ((m + 1 : Nat) : Int)] 3 ∧
      Box ((w.setCell ⟨b, 0, none⟩ (.int .i64 ((m : Int) + 1))).alloc (.cells #[.int .i64 k, .int .i64 i, .string s, .slice p n c] 24)) w.heap.size #[.int .i64 k, .int .i64 i, .string s, .slice p n c] 24 ∧
      But (fun k => k = b) w ((w.setCell ⟨b, 0, none⟩ (.int .i64 ((m : Int) + 1))).alloc (.cells #[.int .i64 k, .int .i64 i, .string s, .slice p n c] 24))) := ⟨hWb, hWv, hW0⟩
    have HI : Hid (VT.In w S (.mk k i s n p c f)) := hin
    clear hin hb hWb hWv hW0
    by_cases h1 : 12 ≤ m
    · rw [chk_many h1]
      have h1' : (12 : Int) < (m : Int) + 1 := by omega
      clear ih HF
      go_enter Try.func137, Try.ntmps137
      go_wp2_with fail
      go_ret
      exact ⟨rfl, HW.out.1, HW.out.2.2⟩
    have h1' : ¬ (12 : Int) < (m : Int) + 1 := by omega
    by_cases h2 : fitB k i s n = false
    · rw [chk_kind h1 h2]
      rw [h2] at HF
      clear ih
      go_enter Try.func137, Try.ntmps137
      go_wp2_with (go_at_call 151; refine HF.mono ?_; rintro e w1 ⟨rfl, hb1⟩)
      go_ret
      exact ⟨rfl, HW.out.1.below hb1, HW.out.2.2.trans (But.ofBelow hb1)⟩
    have h2' : fitB k i s n = true := by simpa using h2
    rw [h2'] at HF
    by_cases h3 : k = 3 ∧ 3 ≤ d
    · rw [chk_deep h1 h2 h3]
      obtain ⟨rfl, h3⟩ := h3
      have h3' : (3 : Int) ≤ (d : Int) := by omega
      clear ih
      go_enter Try.func137, Try.ntmps137
      go_wp2_with (go_at_call 151; refine HF.mono ?_; rintro e w1 ⟨rfl, hb1⟩; have y0 := (HW.out.2.1.below hb1).cell 0; simp at y0)
      go_ret
      exact ⟨rfl, HW.out.1.below hb1, HW.out.2.2.trans (But.ofBelow hb1)⟩
    have h3' : (k == 3) = false ∨ (k = 3 ∧ ¬ (3 : Int) ≤ (d : Int)) := by
      by_cases hk : k = 3
      · exact .inr ⟨hk, fun h => h3 ⟨hk, by omega⟩⟩
      · exact .inl (by rw [beq_eq_false_iff_ne]; exact hk)
    by_cases h4 : 24 < s.size
    · rw [chk_text h1 h2 h3 h4]
      have h4' : (24 : Int) < (s.size : Int) := by omega
      clear ih h3
      rcases h3' with h3 | ⟨rfl, h3⟩
      all_goals
        go_enter Try.func137, Try.ntmps137
        go_wp2_with (go_at_call 151; refine HF.mono ?_; rintro e w1 ⟨rfl, hb1⟩; have y0 := (HW.out.2.1.below hb1).cell 0; have y2 := (HW.out.2.1.below hb1).cell 2; simp at y0 y2)
        go_ret
        exact ⟨rfl, HW.out.1.below hb1, HW.out.2.2.trans (But.ofBelow hb1)⟩
    have h4' : ¬ (24 : Int) < (s.size : Int) := by omega
    by_cases h5 : 6 < n
    · rw [chk_items h1 h2 h3 h4 h5]
      have h5' : (6 : Int) < (n : Int) := by omega
      clear ih h3
      rcases h3' with h3 | ⟨rfl, h3⟩
      all_goals
        go_enter Try.func137, Try.ntmps137
        go_wp2_with (go_at_call 151; refine HF.mono ?_; rintro e w1 ⟨rfl, hb1⟩; have y0 := (HW.out.2.1.below hb1).cell 0; have y2 := (HW.out.2.1.below hb1).cell 2; have y3 := (HW.out.2.1.below hb1).cell 3; simp at y0 y2 y3)
        go_ret
        exact ⟨rfl, HW.out.1.below hb1, HW.out.2.2.trans (But.ofBelow hb1)⟩
    have h5' : ¬ (6 : Int) < (n : Int) := by omega
    rw [chk_step h1 h2 h3 h4 h5]
    have HD : Hid (0 < n → d + 1 ≤ 3) := fun hn => by
      have hk : k = 3 := by simp [fitB] at h2'; omega
      exact Nat.lt_of_not_le fun h => h3 ⟨hk, h⟩
    clear h3
    rcases h3' with h3 | ⟨rfl, h3⟩
    all_goals
      go_enter Try.func137, Try.ntmps137
      go_wp2_with (go_at_call 151; refine HF.mono ?_; rintro e w1 ⟨rfl, hb1⟩; have y0 := (HW.out.2.1.below hb1).cell 0; have y2 := (HW.out.2.1.below hb1).cell 2; have y3 := (HW.out.2.1.below hb1).cell 3; simp at y0 y2 y3)
      have hB1 : Box w1 b #[.int .i64 ((m + 1 : Nat) : Int)] 3 := HW.out.1.below hb1
      have hK1 : But (fun k => k = b) w w1 := HW.out.2.2.trans (But.ofBelow hb1)
      clear HF hb1 y0 y2 y3 HW
      go_loopw [45] (fun x wr => ∃ j : Nat, j ≤ n ∧ x = .int .i64 j ∧ Hid ((stepN (fun j m => chk (f j) (d + 1) m) (m + 1) j).1 = 0) ∧ Box wr b #[.int .i64 (((stepN (fun j m => chk (f j) (d + 1) m) (m + 1) j).2 : Nat) : Int)] 3 ∧ But (fun k => k = b) w wr) (fun x _ => n - (intOf x).toNat)
      case atStart => exact ⟨0, Nat.zero_le _, rfl, rfl, hB1, hK1⟩
      case round =>
        obtain ⟨j, hj, rfl, HZ, hB, hK⟩ := hrel
        clear hB1 hK1
        by_cases hjn : j < n
        · have hjn' : (j : Int) < (n : Int) := by omega
          obtain ⟨bb, o, hp, hSb, hbl, hat⟩ := HI.out.at_ (show 0 < (VT.mk _ i s n p c f).n from by simp only [VT.n]; omega)
          simp only [VT.p_mk] at hp
          subst hp
          have hne : bb ≠ b := fun e => hS (e ▸ hSb)
          obtain ⟨a0, a1, a2, a3⟩ := (hat j hjn).kept (hK.block bb hbl hne)
          simp only [VT.item_mk] at a0 a1 a2 a3
          have HM : Hid ((stepN (fun j m => chk (f j) (d + 1) m) (m + 1) j).2 ≤ 12) := (stepN_le (fun j m hm => chk_le (f j) (d + 1) m hm) (by omega) j).2 HZ.out
          have HS : Hid (stepN (fun j m => chk (f j) (d + 1) m) (m + 1) (j + 1) = chk (f j) (d + 1) (stepN (fun j m => chk (f j) (d + 1) m) (m + 1) j).2) := stepN_succ HZ.out
          have HT : Hid ((stepN (fun j m => chk (f j) (d + 1) m) (m + 1) (j + 1)).1 ≠ 0 → stepN (fun j m => chk (f j) (d + 1) m) (m + 1) n = stepN (fun j m => chk (f j) (d + 1) m) (m + 1) (j + 1)) := fun h => stepN_stuck (by omega) h
          generalize stepN (fun j m => chk (f j) (d + 1) m) (m + 1) j = q at *
          obtain ⟨q1, HQ1⟩ : ∃ q1, Hid (stepN (fun j m => chk (f j) (d + 1) m) (m + 1) (j + 1) = q1) := ⟨_, rfl⟩
          rw [HQ1.out] at HS HT
          obtain ⟨qe, qm⟩ := q
          simp only at HZ HM hB HS
          have HC : Hid (∀ W, Below wr.heap.size wr W → Calls Try.prog 137 #[(f j).val, .int .i64 ((d : Int) + 1), .pointer (some ⟨b, 0, none⟩)] W fun e w' => e = .returned (.int .i64 q1.1) ∧ Box w' b #[.int .i64 q1.2] 3 ∧ But (fun k => k = b) W w') := by
            intro W hW
            have h := ih j W S b (d + 1) qm (((HI.out.sub hjn).but hK (fun x hx _ e => hS (e ▸ hx))).below hW) hS (hB.below hW) HM.out (HD.out (by omega))
            rw [← HS.out] at h
            exact h
          unfold VT.val at HC
          obtain ⟨xk, xi, xs, xn, xp, xc, xf, hx⟩ := (HI.out.sub hjn).mk_
          simp only [VT.item_mk] at hx
          clear ih HI hat hB HS HM
          rw [hx] at a0 a1 a2 a3 HC
          clear hx
          simp only [VT.kind_mk, VT.int_mk, VT.text_mk, VT.p_mk, VT.n_mk, VT.c_mk] at a0 a1 a2 a3 HC
          obtain ⟨r, rm⟩ := q1
          simp only at HC HT
          by_cases hr : r = 0
          · subst hr
            clear HT
            go_wp2_with (go_at_call 137; refine (HC.out _ ?_).mono ?_; exact (Below.refl _ _).alloc (Nat.le_refl _) _; rintro e w4 ⟨rfl, hB4, hK4⟩)
            go_roundw
            case rel => exact ⟨j + 1, by omega, by go_num, by rw [HQ1.out]; rfl, by rw [HQ1.out]; exact hB4, (hK.alloc _).trans hK4⟩
            case measure => simp [intOf]; omega
          · have hr' : ((r : Int) == 0) = false := by rw [beq_eq_false_iff_ne]; omega
            have HT2 : Hid (stepN (fun j m => chk (f j) (d + 1) m) (m + 1) n = (r, rm)) := HT.out (by simpa using hr)
            clear HT
            go_wp2_with (go_at_call 137; refine (HC.out _ ?_).mono ?_; exact (Below.refl _ _).alloc (Nat.le_refl _) _; rintro e w4 ⟨rfl, hB4, hK4⟩)
            go_ret
            rw [HT2.out]
            exact ⟨rfl, hB4, (hK.alloc _).trans hK4⟩
        · obtain rfl : j = n := by omega
          clear ih HI
          go_wp2
          go_ret
          exact ⟨by rw [HZ.out]; rfl, hB, hK⟩
end Go.Proofs.Ytikfpoabaaiegaa

namespace Go.Proofs.Ytikfpoabaaiegaa
open Go.RowKit
set_option maxRecDepth 8000

set_option maxHeartbeats 1000000 in
theorem check_any (t : VT) (w : World) (S : Nat → Prop) (hin : VT.In w S t) (hS : ∀ b, S b → b < w.heap.size) :
    Calls Try.prog 112 #[t.val] w fun e w' => e = .returned (.int .i64 (chk t 0 0).1) ∧ Below w.heap.size w w' := by
  have HC : Hid (∀ W b, Below w.heap.size w W → w.heap.size ≤ b → Box W b #[.int .i64 ((0 : Nat) : Int)] 3 → Calls Try.prog 137 #[t.val, .int .i64 ((0 : Nat) : Int), .pointer (some ⟨b, 0, none⟩)] W fun e w' => e = .returned (.int .i64 (chk t 0 0).1) ∧ Box w' b #[.int .i64 (chk t 0 0).2] 3 ∧ But (fun k => k = b) W w') :=
    fun W b hW hb hB => checkPart_any t W S b 0 0 (hin.below hW) (fun h => by have := hS b h; omega) hB (by omega) (by omega)
  obtain ⟨k, i, s, n, p, c, f, rfl⟩ := hin.mk_
  clear hin hS
  generalize chk (.mk k i s n p c f) 0 0 = r at *
  simp only [VT.val, VT.kind_mk, VT.int_mk, VT.text_mk, VT.p_mk, VT.n_mk, VT.c_mk] at HC ⊢
  go_enter Try.func112, Try.ntmps112
  go_wp2_with fail
  refine (HC.out _ (w.heap.size + 1) ?_ ?_ ?_).mono ?_
  · exact ((Below.refl _ _).alloc (Nat.le_refl _) _).alloc (by simp) _
  · omega
  · have h := Box.new (w.alloc (.cells #[.int .i64 k, .int .i64 i, .string s, .slice p n c] 24)) #[.int .i64 0] 3
    simpa using h
  · rintro e w1 ⟨rfl, _, hK⟩
    have hb1 : Below w.heap.size w w1 := (((Below.refl w.heap.size w).alloc (Nat.le_refl _) _).alloc (by simp) _).trans (hK.below (by simp; omega) (fun x hx => by omega))
    clear hK HC
    go_wp2
    go_ret
    exact ⟨rfl, hb1⟩
end Go.Proofs.Ytikfpoabaaiegaa

namespace Go.Proofs.Ytikfpoabaaiegaa
open Go.RowKit
set_option maxRecDepth 8000

set_option maxHeartbeats 1000000 in
theorem orNone_any (t : VT) (w : World) (S : Nat → Prop) (hin : VT.In w S t) :
    Calls Try.prog 153 #[t.val] w fun e w' => e = .returned (cleanT t).val ∧ Below w.heap.size w w' := by
  have HC : Hid (∀ W, Below w.heap.size w W → Calls Try.prog 112 #[t.val] W fun e w' => e = .returned (.int .i64 (chk t 0 0).1) ∧ Below W.heap.size W w') :=
    fun W hW => check_any t W (fun b => b < W.heap.size) ((hin.below hW).mono fun b _ hl => hl) (fun b hb => hb)
  obtain ⟨k, i, s, n, p, c, f, ht⟩ := hin.mk_
  clear hin
  unfold cleanT
  by_cases h : (chk t 0 0).1 = 0
  · rw [if_pos h]
    rw [h] at HC
    simp only [VT.val, ht, VT.kind_mk, VT.int_mk, VT.text_mk, VT.p_mk, VT.n_mk, VT.c_mk] at HC ⊢
    go_enter Try.func153, Try.ntmps153
    go_wp2_with fail
    refine (HC.out _ ?_).mono ?_
    · exact ((Below.refl _ _).alloc (Nat.le_refl _) _).alloc (by simp) _
    rintro e w1 ⟨rfl, hb1⟩
    have hv1 : Box w1 w.heap.size #[.int .i64 k, .int .i64 i, .string s, .slice p n c] 24 := ((Box.new w _ 24).below ((Below.refl _ _).alloc (Nat.le_refl _) _)).below hb1
    have hv2 : Box w1 (w.heap.size + 1) #[.int .i64 0, .int .i64 0, .string ⟨#[]⟩, .slice none 0 0] 24 := by
      have h := Box.new (w.alloc (.cells #[.int .i64 k, .int .i64 i, .string s, .slice p n c] 24)) #[.int .i64 0, .int .i64 0, .string ⟨#[]⟩, .slice none 0 0] 24
      rw [show (w.alloc (.cells #[.int .i64 k, .int .i64 i, .string s, .slice p n c] 24)).heap.size = w.heap.size + 1 by simp] at h
      exact h.below hb1
    have hbw : Below w.heap.size w w1 := (((Below.refl w.heap.size w).alloc (Nat.le_refl _) _).alloc (by simp) _).trans (hb1.mono (by simp; omega))
    have x0 := hv1.cell 0
    have x1 := hv1.cell 1
    have x2 := hv1.cell 2
    have x3 := hv1.cell 3
    have d0 := hv2.cell 0
    have d1 := hv2.cell 1
    have d2 := hv2.cell 2
    have d3 := hv2.cell 3
    have e0 := hv2.frozen 0
    have e1 := hv2.frozen 1
    have e2 := hv2.frozen 2
    have e3 := hv2.frozen 3
    have z2 := hv2.lt
    simp at x0 x1 x2 x3 d0 d1 d2 d3
    clear hb1 hv1 hv2 HC
    go_wp2
    refine bodyPost_ret (v := .agg #[.int .i64 k, .int .i64 i, .string s, .slice p n c]) (by simp [results, Try.results153, go_sem, d0, d1, d2, d3]) rfl ⟨rfl, ?_⟩
    exact (((hbw.setCell (Nat.le_succ _) _).setCell (Nat.le_succ _) _).setCell (Nat.le_succ _) _).setCell (Nat.le_succ _) _
  · rw [if_neg h]
    have h' : ¬ (((chk t 0 0).1 : Int) = 0) := by omega
    generalize (chk t 0 0).1 = r at *
    simp only [VT.val, zeroT, ht, VT.kind_mk, VT.int_mk, VT.text_mk, VT.p_mk, VT.n_mk, VT.c_mk] at HC ⊢
    go_enter Try.func153, Try.ntmps153
    go_wp2_with fail
    refine (HC.out _ ?_).mono ?_
    · exact ((Below.refl _ _).alloc (Nat.le_refl _) _).alloc (by simp) _
    rintro e w1 ⟨rfl, hb1⟩
    have hv1 : Box w1 w.heap.size #[.int .i64 k, .int .i64 i, .string s, .slice p n c] 24 := ((Box.new w _ 24).below ((Below.refl _ _).alloc (Nat.le_refl _) _)).below hb1
    have hv2 : Box w1 (w.heap.size + 1) #[.int .i64 0, .int .i64 0, .string ⟨#[]⟩, .slice none 0 0] 24 := by
      have h := Box.new (w.alloc (.cells #[.int .i64 k, .int .i64 i, .string s, .slice p n c] 24)) #[.int .i64 0, .int .i64 0, .string ⟨#[]⟩, .slice none 0 0] 24
      rw [show (w.alloc (.cells #[.int .i64 k, .int .i64 i, .string s, .slice p n c] 24)).heap.size = w.heap.size + 1 by simp] at h
      exact h.below hb1
    have hbw : Below w.heap.size w w1 := (((Below.refl w.heap.size w).alloc (Nat.le_refl _) _).alloc (by simp) _).trans (hb1.mono (by simp; omega))
    have x0 := hv1.cell 0
    have x1 := hv1.cell 1
    have x2 := hv1.cell 2
    have x3 := hv1.cell 3
    have d0 := hv2.cell 0
    have d1 := hv2.cell 1
    have d2 := hv2.cell 2
    have d3 := hv2.cell 3
    have e0 := hv2.frozen 0
    have e1 := hv2.frozen 1
    have e2 := hv2.frozen 2
    have e3 := hv2.frozen 3
    have z2 := hv2.lt
    simp at x0 x1 x2 x3 d0 d1 d2 d3
    clear hb1 hv1 hv2 HC
    go_wp2
    refine bodyPost_ret (v := .agg #[.int .i64 0, .int .i64 0, .string ⟨#[]⟩, .slice none 0 0]) (by simp [results, Try.results153, go_sem, d0, d1, d2, d3]) rfl ⟨rfl, ?_⟩
    exact (((hbw.setCell (Nat.le_succ _) _).setCell (Nat.le_succ _) _).setCell (Nat.le_succ _) _).setCell (Nat.le_succ _) _
end Go.Proofs.Ytikfpoabaaiegaa

namespace Go.Proofs.Ytikfpoabaaiegaa
open Go.RowKit
set_option maxRecDepth 8000

theorem clean_enc_len {w : World} {S : Nat → Prop} {t : VT} (h : VT.In w S t) : (encB (cleanT t)).length ≤ 720 := by
  have h1 := enc_len (clean_val h)
  have h2 := clean_len (t := t)
  omega

set_option maxHeartbeats 1000000 in
theorem encode_any (t : VT) (w : World) (S : Nat → Prop) (hin : VT.In w S t) (hS : ∀ b, S b → b < w.heap.size) :
    Calls Try.prog 138 #[t.val] w fun e w' => EPost w.heap.size w (encB (cleanT t)) e w' := by
  have HC : Hid (∀ W, Below w.heap.size w W → Calls Try.prog 153 #[t.val] W fun e w' => e = .returned (cleanT t).val ∧ Below W.heap.size W w') := fun W hW => orNone_any t W S (hin.below hW)
  have hcl := clean_enc_len hin
  have HA : Hid (∀ W, Below w.heap.size w W → Calls Try.prog 152 #[.slice none 0 0, (cleanT t).val] W fun e w' => EPost w.heap.size W ([] ++ encB (cleanT t)) e w') := fun W hW => by
    have h1 : VT.In W (fun b => b < w.heap.size) (cleanT t) := ((cleanT_in hin).mono fun b hb _ => hS b hb).kept hW.size fun b hb _ => hW.block b hb
    exact appendEncoded_any (cleanT t) w.heap.size W (.slice none 0 0) [] hW.size (World.ownsRow_nil _ _ _ _) h1 (clean_val hin) (by simp; omega)
  simp only [List.nil_append] at HA
  unfold VT.val at HC HA ⊢
  generalize encB (cleanT t) = RES at *
  clear hin hS
  go_enter Try.func138, Try.ntmps138
  go_wp2_with fail
  refine (HC.out _ ?_).mono ?_
  · exact (Below.refl _ _).alloc (Nat.le_refl _) _
  rintro e w1 ⟨rfl, hb1⟩
  have hbw : Below w.heap.size w w1 := ((Below.refl w.heap.size w).alloc (Nat.le_refl _) _).trans (hb1.mono (by simp))
  have hkw : KeepN w w1 := KeepN.below hbw
  have HBw := hid (And.intro hbw hkw)
  clear hb1 hbw hkw
  go_wp2_with fail
  refine (HA.out _ HBw.out.1).mono ?_
  intro e w2 hP
  obtain ⟨v2, rfl, h2⟩ := hP
  have HF := hid (h2.lift HBw.out.1 HBw.out.2)
  clear h2 HA HC
  go_wp2
  go_ret
  exact ⟨_, rfl, HF.out⟩

/-- what the parts of a valid value are -/
theorem part_fit {t : VT} (h : Val t) : ∀ q ∈ flatP t, (0 ≤ q.kind ∧ q.kind ≤ 3) ∧ q.text.size ≤ 24 ∧ q.n ≤ 6 ∧ -9223372036854775808 ≤ q.int ∧ q.int ≤ 9223372036854775807 := by
  induction t with
  | nil => exact h.elim
  | mk k i s n p c f ih =>
    obtain ⟨⟨h1, h2, h3, h4, h5⟩, h6⟩ := h
    intro q hq
    rw [flatP_eq, List.mem_cons] at hq
    rcases hq with rfl | hq
    · simp only [fitB, Bool.and_eq_true, Bool.or_eq_true, decide_eq_true_eq] at h1
      exact ⟨⟨h1.1.1.1.1, h1.1.1.1.2⟩, h2, h3, h4, h5⟩
    · obtain ⟨j, hj, hq⟩ := List.mem_flatMap.1 hq
      exact ih j (h6 j (List.mem_range.1 hj)) q hq
end Go.Proofs.Ytikfpoabaaiegaa

namespace Go.Proofs.Ytikfpoabaaiegaa
open Go.RowKit
set_option maxRecDepth 8000
set_option maxHeartbeats 1000000 in
theorem wpNumber_any (u : Nat) (hu : u < 34359738368) (base : Nat) (w : World) (v : Value) (zs : List Int) (hv : OwnBy base w v zs) (hb : base ≤ w.heap.size) (hz : zs.length ≤ 100000000) :
    Calls Try.prog 100 #[v, .int .i64 u] w fun e w' => EPost base w (zs ++ grpB u) e w' := by
  obtain ⟨i0, Kd⟩ := kindB
  have hul : (grpB u).length ≤ 10 := grpB_len 9 u (Nat.lt_of_lt_of_le hu (by decide))
  have HU : Hid ((grpB u).length ≤ 10) := hul
  have HV := hid hv
  clear hv hul
  go_enter Try.func100, Try.ntmps100
  go_wp2_with fail
  go_loopw [0, 1] (fun v x wr => ∃ (ys : List Int) (m : Nat), x = .int .i64 (m : Int) ∧ m < 34359738368 ∧ LayB base w (zs ++ ys) v wr ∧ ys ++ grpB m = grpB u) (fun _ x _ => (intOf x).toNat)
  case atStart => exact ⟨[], u, rfl, hu, by simpa using LayB.refl HV.out, rfl⟩
  case round =>
    obtain ⟨ys, m, rfl, hm, hO, hg⟩ := hrel
    have hyl : ys.length ≤ 10 := by
      have h1 := HU.out
      rw [← hg, List.length_append] at h1
      omega
    have hsw := hO.bel.size
    have hzl : (zs ++ ys).length ≤ 100000010 := by rw [List.length_append]; omega
    have HG := hid hg
    obtain ⟨L, hL⟩ : ∃ L, L = zs ++ ys := ⟨_, rfl⟩
    rw [← hL] at hO hzl
    have HL := hid hL
    have HO := hid hO
    have hrow : wr.ownsRow base 5 1 u0 L.length (L.map (Value.int .u8)) := hO.own
    clear hO hg hL
    by_cases hs : m < 128
    · have hs' : ¬ (128 : Int) ≤ (m : Int) := by omega
      have e1 : (m : Int) % 256 = (m : Int) := by omega
      go_wp2_with (at_builtin; refine wpList_app rfl (.tmp 15) (.tmp 18) 47 5 i0 _ 1 1 Kd rfl base u0 L.length _ rfl (hrow.alloc _) ⟨wr.heap.size, 0, none⟩ 1 1 [.int .u8 (m : Int)] rfl rfl (cell_one_new _ _ _) (one8 _) (by omega) (by omega) (by simp; omega) ?_)
      intro v3 w3 ho3 hg3 hn3
      have HF := hid (HO.out.one (by omega) ho3 hg3)
      clear ho3 hg3 hn3 hrow
      go_wp2
      go_ret
      refine ⟨_, rfl, ?_⟩
      have e : zs ++ grpB u = L ++ [(m : Int)] := by rw [← HG.out, grpB_small hs, HL.out, List.append_assoc]
      rw [e]
      exact HF.out
    · have hs' : (128 : Int) ≤ (m : Int) := by omega
      have e2 : bits BinOp.or IntKind.u8 ((m : Int) % 256) 128 = ((m % 128 + 128 : Nat) : Int) := by
        have h := bits_or128 m
        rw [show ((m % 256 : Nat) : Int) = (m : Int) % 256 by omega] at h
        exact h
      go_wp2_with (at_builtin; refine wpList_app rfl (.tmp 7) (.tmp 11) 47 5 i0 _ 1 1 Kd rfl base u0 L.length _ rfl (hrow.alloc _) ⟨wr.heap.size, 0, none⟩ 1 1 [.int .u8 ((m : Int) % 128 + 128)] rfl rfl (cell_one_new _ _ _) (one8 _) (by omega) (by omega) (by simp; omega) ?_)
      intro v3 w3 ho3 hg3 hn3
      have HF := hid (HO.out.one (by omega) ho3 hg3)
      clear ho3 hg3 hn3 hrow e2
      go_wp2
      go_roundw
      case rel =>
        have e3 : ((m % 128 + 128 : Nat) : Int) = (m : Int) % 128 + 128 := by omega
        refine ⟨ys ++ [(m : Int) % 128 + 128], m / 128, ?_, by omega, by rw [← List.append_assoc, ← HL.out]; exact HF.out, ?_⟩
        · go_num
        · rw [List.append_assoc, List.singleton_append, ← e3, ← grpB_great hs]; exact HG.out
      case measure => simp [intOf]; omega
end Go.Proofs.Ytikfpoabaaiegaa
