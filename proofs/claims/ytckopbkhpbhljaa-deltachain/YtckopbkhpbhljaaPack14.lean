import Derived.Test.YtckopbkhpbhljaaPack1
import Derived.Test.YtckopbkhpbhljaaPack13
namespace Go.Proofs.Ytckopbkhpbhljaa
open Go.RowKit
set_option maxRecDepth 8000

/-- the first that isn't 0 -/
def firstC (g : Nat → Nat) : Nat → Nat
  | 0 => 0
  | j + 1 => if firstC g j = 0 then g j else firstC g j
theorem firstC_succ {g : Nat → Nat} {j : Nat} (h : firstC g j = 0) : firstC g (j + 1) = g j := by
  show (if _ then _ else _) = _
  rw [if_pos h]
theorem firstC_stuck {g : Nat → Nat} : ∀ {n j : Nat}, j ≤ n → firstC g j ≠ 0 → firstC g n = firstC g j := by
  intro n
  induction n with
  | zero =>
    intro j h _
    obtain rfl : j = 0 := by omega
    rfl
  | succ n ih =>
    intro j h hne
    by_cases hj : j = n + 1
    · rw [hj]
    · have e := ih (show j ≤ n by omega) hne
      show (if firstC g n = 0 then _ else firstC g n) = _
      rw [e, if_neg hne]
theorem firstC_hit {g : Nat → Nat} {n j : Nat} (h : firstC g j = 0) (hj : j < n) (hg : g j ≠ 0) : firstC g n = g j := by
  have h1 := firstC_succ h
  rw [firstC_stuck (show j + 1 ≤ n from hj) (by rw [h1]; exact hg), h1]
theorem firstC_congr {g g' : Nat → Nat} : ∀ {n : Nat}, (∀ j, j < n → g j = g' j) → firstC g n = firstC g' n := by
  intro n
  induction n with
  | zero => intro _; rfl
  | succ n ih =>
    intro h
    show (if firstC g n = 0 then g n else firstC g n) = (if firstC g' n = 0 then g' n else firstC g' n)
    rw [ih fun j hj => h j (by omega), h n (by omega)]
/-- what is wrong with a number of loops -/
def chkLoop (x : Int) : Nat := if x < 0 ∨ 9 < x then 25 else 0
/-- what is wrong with a record -/
def chkRec (r : RT) : Nat := if 12 < r.key.size then 24 else if (chk r.v 0 0).1 ≠ 0 then (chk r.v 0 0).1 else if 3 < r.n then 25 else firstC (fun j => chkLoop (r.loop j)) r.n
/-- what is wrong with the values of a cell -/
def chkVals (t : VT) : Nat := if 6 < t.n then 27 else firstC (fun q => (chk (t.item q) 0 0).1) t.n
/-- what is wrong with cell j -/
def chkCell (f : Nat → VT) (j : Nat) : Nat := if 12 < (f j).text.size then 24 else if 0 < j ∧ Op.bytesLess (f (j - 1)).text.toList (f j).text.toList = false then 27 else chkVals (f j)
/-- what is wrong with a state -/
def chkState (s : ST) : Nat := if s.num < 0 ∨ 1073741824 < s.num then 26 else if 64 < s.n then 27 else firstC (chkCell s.cell) s.n

theorem chkRec_alike {r u : RT} (h : RT.Alike r u) : chkRec r = chkRec u := by
  unfold chkRec
  rw [h.key, h.n, chk_alike _ _ 0 0 h.v, firstC_congr (g := fun j => chkLoop (r.loop j)) (g' := fun j => chkLoop (u.loop j)) (n := r.n) (fun j hj => by rw [h.loop j hj])]
theorem chkVals_alike {t u : VT} (h : VT.Alike t u) : chkVals t = chkVals u := by
  unfold chkVals
  rw [h.n, firstC_congr (fun j hj => by rw [chk_alike _ _ 0 0 (h.item hj)])]
theorem chkCell_alike {f g : Nat → VT} {j : Nat} (h : ∀ q, q ≤ j → VT.Alike (f q) (g q)) : chkCell f j = chkCell g j := by
  unfold chkCell
  rw [(h j (Nat.le_refl _)).text, (h (j - 1) (by omega)).text, chkVals_alike (h j (Nat.le_refl _))]
theorem chkState_alike {s u : ST} (h : ST.Alike s u) : chkState s = chkState u := by
  unfold chkState
  rw [h.num, h.n, firstC_congr (fun j hj => chkCell_alike fun q hq => h.cell q (by omega))]
theorem le_not_lt : ∀ x y : List UInt8, (Op.bytesLess x y || x == y) = !Op.bytesLess y x
  | [], [] => rfl
  | [], _ :: _ => rfl
  | _ :: _, [] => rfl
  | a :: x, b :: y => by
    have ih := le_not_lt x y
    rcases Nat.lt_trichotomy a.toNat b.toNat with h | h | h
    · have h1 : a < b := h
      have h2 : ¬ b < a := fun h2 => by have : b.toNat < a.toNat := h2; omega
      have h3 : ¬ a = b := fun e => by rw [e] at h; omega
      have h4 : ¬ b = a := fun e => h3 e.symm
      simp [Op.bytesLess, h1, h2, h4]
    · have e : a = b := UInt8.toNat_inj.1 h
      subst e
      have h1 : ¬ a < a := fun h2 => by have : a.toNat < a.toNat := h2; omega
      simp [Op.bytesLess, h1]
      simpa using ih
    · have h1 : b < a := h
      have h2 : ¬ a < b := fun h2 => by have : a.toNat < b.toNat := h2; omega
      have h3 : ¬ a = b := fun e => by rw [e] at h; omega
      simp [Op.bytesLess, h1, h2, h3]
theorem firstC_le {g : Nat → Nat} {m : Nat} (hg : ∀ j, g j ≤ m) : ∀ n, firstC g n ≤ m := by
  intro n
  induction n with
  | zero => exact Nat.zero_le _
  | succ n ih =>
    show (if _ then _ else _) ≤ m
    split
    · exact hg n
    · exact ih
end Go.Proofs.Ytckopbkhpbhljaa

namespace Go.Proofs.Ytckopbkhpbhljaa
open Go.RowKit
set_option maxRecDepth 8000

theorem chk_many {k i : Int} {s : ByteArray} {n : Nat} {p : Option Addr} {c : Nat} {f : Nat → VT} {d m : Nat} (h : 12 ≤ m) : chk (.mk k i s n p c f) d m = (22, m + 1) := by rw [chk_eq, if_pos h]
theorem chk_kind {k i : Int} {s : ByteArray} {n : Nat} {p : Option Addr} {c : Nat} {f : Nat → VT} {d m : Nat} (h : ¬ 12 ≤ m) (h2 : fitB k i s n = false) : chk (.mk k i s n p c f) d m = (20, m + 1) := by rw [chk_eq, if_neg h, if_pos h2]
theorem chk_deep {k i : Int} {s : ByteArray} {n : Nat} {p : Option Addr} {c : Nat} {f : Nat → VT} {d m : Nat} (h : ¬ 12 ≤ m) (h2 : ¬ fitB k i s n = false) (h3 : k = 3 ∧ 3 ≤ d) : chk (.mk k i s n p c f) d m = (23, m + 1) := by rw [chk_eq, if_neg h, if_neg h2, if_pos h3]
theorem chk_text {k i : Int} {s : ByteArray} {n : Nat} {p : Option Addr} {c : Nat} {f : Nat → VT} {d m : Nat} (h : ¬ 12 ≤ m) (h2 : ¬ fitB k i s n = false) (h3 : ¬ (k = 3 ∧ 3 ≤ d)) (h4 : 24 < s.size) : chk (.mk k i s n p c f) d m = (21, m + 1) := by rw [chk_eq, if_neg h, if_neg h2, if_neg h3, if_pos h4]
theorem chk_items {k i : Int} {s : ByteArray} {n : Nat} {p : Option Addr} {c : Nat} {f : Nat → VT} {d m : Nat} (h : ¬ 12 ≤ m) (h2 : ¬ fitB k i s n = false) (h3 : ¬ (k = 3 ∧ 3 ≤ d)) (h4 : ¬ 24 < s.size) (h5 : 6 < n) : chk (.mk k i s n p c f) d m = (22, m + 1) := by rw [chk_eq, if_neg h, if_neg h2, if_neg h3, if_neg h4, if_pos h5]
theorem chk_step {k i : Int} {s : ByteArray} {n : Nat} {p : Option Addr} {c : Nat} {f : Nat → VT} {d m : Nat} (h : ¬ 12 ≤ m) (h2 : ¬ fitB k i s n = false) (h3 : ¬ (k = 3 ∧ 3 ≤ d)) (h4 : ¬ 24 < s.size) (h5 : ¬ 6 < n) : chk (.mk k i s n p c f) d m = stepN (fun j m => chk (f j) (d + 1) m) (m + 1) n := by rw [chk_eq, if_neg h, if_neg h2, if_neg h3, if_neg h4, if_neg h5]

set_option maxHeartbeats 4000000 in
theorem checkPart_any (t : VT) : ∀ (w : World) (S : Nat → Prop) (b d m : Nat), VT.In w S t → ¬ S b → Box w b #[.int .i64 m] 3 → m ≤ 12 → d ≤ 3 →
    Calls Try.prog 93 #[t.val, .int .i64 d, .pointer (some ⟨b, 0, none⟩)] w fun e w' => e = .returned (.int .i64 (chk t d m).1) ∧ Box w' b #[.int .i64 (chk t d m).2] 3 ∧ But (fun k => k = b) w w' := by
  induction t with
  | nil => intro w S b d m hin; exact hin.elim
  | mk k i s n p c f ih =>
    intro w S b d m hin hS hb hm hd
    have hnn := hin.fit.nn
    simp only [VT.n_mk] at hnn
    simp only [VT.val, VT.kind_mk, VT.int_mk, VT.text_mk, VT.p_mk, VT.n_mk, VT.c_mk]
    have hc := hb.cell 0
    have hf := hb.frozen 0
    have hlt := hb.lt
    simp at hc
    have hW0 : But (fun k => k = b) w ((w.setCell ⟨b, 0, none⟩ (.int .i64 ((m : Int) + 1))).alloc (.cells #[.int .i64 k, .int .i64 i, .string s, .slice p n c] 60)) := ((But.refl (fun k => k = b) w).setCell (p := ⟨b, 0, none⟩) (fun _ => rfl) _).alloc _
    have hWb : Box ((w.setCell ⟨b, 0, none⟩ (.int .i64 ((m : Int) + 1))).alloc (.cells #[.int .i64 k, .int .i64 i, .string s, .slice p n c] 60)) b #[.int .i64 ((m + 1 : Nat) : Int)] 3 := by
      have h := hb.set 0 (.int .i64 ((m : Int) + 1))
      have h2 : Box (w.setCell ⟨b, 0, none⟩ (.int .i64 ((m : Int) + 1))) b #[.int .i64 ((m + 1 : Nat) : Int)] 3 := by simpa using h
      exact h2.below ((Below.refl _ _).alloc (Nat.le_refl _) _)
    have hWv : Box ((w.setCell ⟨b, 0, none⟩ (.int .i64 ((m : Int) + 1))).alloc (.cells #[.int .i64 k, .int .i64 i, .string s, .slice p n c] 60)) w.heap.size #[.int .i64 k, .int .i64 i, .string s, .slice p n c] 60 := by
      have h := Box.new (w.setCell ⟨b, 0, none⟩ (.int .i64 ((m : Int) + 1))) #[.int .i64 k, .int .i64 i, .string s, .slice p n c] 60
      simpa [World.setCell] using h
    have HF := fits_any k i s n p c ((w.setCell ⟨b, 0, none⟩ (.int .i64 ((m : Int) + 1))).alloc (.cells #[.int .i64 k, .int .i64 i, .string s, .slice p n c] 60))
    have HW : Hid (Box ((w.setCell ⟨b, 0, none⟩ (.int .i64 ((m : Int) + 1))).alloc (.cells #[.int .i64 k, .int .i64 i, .string s, .slice p n c] 60)) b #[.int .i64 ((m + 1 : Nat) : Int)] 3 ∧
      Box ((w.setCell ⟨b, 0, none⟩ (.int .i64 ((m : Int) + 1))).alloc (.cells #[.int .i64 k, .int .i64 i, .string s, .slice p n c] 60)) w.heap.size #[.int .i64 k, .int .i64 i, .string s, .slice p n c] 60 ∧
      But (fun k => k = b) w ((w.setCell ⟨b, 0, none⟩ (.int .i64 ((m : Int) + 1))).alloc (.cells #[.int .i64 k, .int .i64 i, .string s, .slice p n c] 60))) := ⟨hWb, hWv, hW0⟩
    have HI : Hid (VT.In w S (.mk k i s n p c f)) := hin
    clear hin hb hWb hWv hW0
    by_cases h1 : 12 ≤ m
    · rw [chk_many h1]
      have h1' : (12 : Int) < (m : Int) + 1 := by omega
      clear ih HF
      go_enter Try.func93, Try.ntmps93
      go_wp2_with fail
      go_ret
      exact ⟨rfl, HW.out.1, HW.out.2.2⟩
    have h1' : ¬ (12 : Int) < (m : Int) + 1 := by omega
    by_cases h2 : fitB k i s n = false
    · rw [chk_kind h1 h2]
      rw [h2] at HF
      clear ih
      go_enter Try.func93, Try.ntmps93
      go_wp2_with (go_at_call 98; refine HF.mono ?_; rintro e w1 ⟨rfl, hb1⟩)
      go_ret
      exact ⟨rfl, HW.out.1.below hb1, HW.out.2.2.trans (But.ofBelow hb1)⟩
    have h2' : fitB k i s n = true := by simpa using h2
    rw [h2'] at HF
    by_cases h3 : k = 3 ∧ 3 ≤ d
    · rw [chk_deep h1 h2 h3]
      obtain ⟨rfl, h3⟩ := h3
      have h3' : (3 : Int) ≤ (d : Int) := by omega
      clear ih
      go_enter Try.func93, Try.ntmps93
      go_wp2_with (go_at_call 98; refine HF.mono ?_; rintro e w1 ⟨rfl, hb1⟩; have y0 := (HW.out.2.1.below hb1).cell 0; simp at y0)
      go_ret
      exact ⟨rfl, HW.out.1.below hb1, HW.out.2.2.trans (But.ofBelow hb1)⟩
    have h3' : (k == 3) = false ∨ (k = 3 ∧ ¬ (3 : Int) ≤ (d : Int)) := by
      by_cases hk : k = 3
      · exact .inr ⟨hk, fun h => h3 ⟨hk, by omega⟩⟩
      · exact .inl (by rw [beq_eq_false_iff_ne]; exact hk)
    by_cases h4 : 24 < s.size
    · rw [chk_text h1 h2 h3 h4]
      have h4' : (24 : Int) < (s.size : Int) := by omega
      clear ih h3
      rcases h3' with h3 | ⟨rfl, h3⟩
      all_goals
        go_enter Try.func93, Try.ntmps93
        go_wp2_with (go_at_call 98; refine HF.mono ?_; rintro e w1 ⟨rfl, hb1⟩; have y0 := (HW.out.2.1.below hb1).cell 0; have y2 := (HW.out.2.1.below hb1).cell 2; simp at y0 y2)
        go_ret
        exact ⟨rfl, HW.out.1.below hb1, HW.out.2.2.trans (But.ofBelow hb1)⟩
    have h4' : ¬ (24 : Int) < (s.size : Int) := by omega
    by_cases h5 : 6 < n
    · rw [chk_items h1 h2 h3 h4 h5]
      have h5' : (6 : Int) < (n : Int) := by omega
      clear ih h3
      rcases h3' with h3 | ⟨rfl, h3⟩
      all_goals
        go_enter Try.func93, Try.ntmps93
        go_wp2_with (go_at_call 98; refine HF.mono ?_; rintro e w1 ⟨rfl, hb1⟩; have y0 := (HW.out.2.1.below hb1).cell 0; have y2 := (HW.out.2.1.below hb1).cell 2; have y3 := (HW.out.2.1.below hb1).cell 3; simp at y0 y2 y3)
        go_ret
        exact ⟨rfl, HW.out.1.below hb1, HW.out.2.2.trans (But.ofBelow hb1)⟩
    have h5' : ¬ (6 : Int) < (n : Int) := by omega
    rw [chk_step h1 h2 h3 h4 h5]
    have HD : Hid (0 < n → d + 1 ≤ 3) := fun hn => by
      have hk : k = 3 := by simp [fitB] at h2'; omega
      exact Nat.lt_of_not_le fun h => h3 ⟨hk, h⟩
    clear h3
    rcases h3' with h3 | ⟨rfl, h3⟩
    all_goals
      go_enter Try.func93, Try.ntmps93
      go_wp2_with (go_at_call 98; refine HF.mono ?_; rintro e w1 ⟨rfl, hb1⟩; have y0 := (HW.out.2.1.below hb1).cell 0; have y2 := (HW.out.2.1.below hb1).cell 2; have y3 := (HW.out.2.1.below hb1).cell 3; simp at y0 y2 y3)
      have hB1 : Box w1 b #[.int .i64 ((m + 1 : Nat) : Int)] 3 := HW.out.1.below hb1
      have hK1 : But (fun k => k = b) w w1 := HW.out.2.2.trans (But.ofBelow hb1)
      clear HF hb1 y0 y2 y3 HW
      go_loopw [45] (fun x wr => ∃ j : Nat, j ≤ n ∧ x = .int .i64 j ∧ Hid ((stepN (fun j m => chk (f j) (d + 1) m) (m + 1) j).1 = 0) ∧ Box wr b #[.int .i64 (((stepN (fun j m => chk (f j) (d + 1) m) (m + 1) j).2 : Nat) : Int)] 3 ∧ But (fun k => k = b) w wr) (fun x _ => n - (intOf x).toNat)
      case atStart => exact ⟨0, Nat.zero_le _, rfl, rfl, hB1, hK1⟩
      case round =>
        obtain ⟨j, hj, rfl, HZ, hB, hK⟩ := hrel
        clear hB1 hK1
        by_cases hjn : j < n
        · have hjn' : (j : Int) < (n : Int) := by omega
          obtain ⟨bb, o, hp, hSb, hbl, hat⟩ := HI.out.at_ (show 0 < (VT.mk _ i s n p c f).n from by simp only [VT.n]; omega)
          simp only [VT.p_mk] at hp
          subst hp
          have hne : bb ≠ b := fun e => hS (e ▸ hSb)
          obtain ⟨a0, a1, a2, a3⟩ := (hat j hjn).kept (hK.block bb hbl hne)
          simp only [VT.item_mk] at a0 a1 a2 a3
          have HM : Hid ((stepN (fun j m => chk (f j) (d + 1) m) (m + 1) j).2 ≤ 12) := (stepN_le (fun j m hm => chk_le (f j) (d + 1) m hm) (by omega) j).2 HZ.out
          have HS : Hid (stepN (fun j m => chk (f j) (d + 1) m) (m + 1) (j + 1) = chk (f j) (d + 1) (stepN (fun j m => chk (f j) (d + 1) m) (m + 1) j).2) := stepN_succ HZ.out
          have HT : Hid ((stepN (fun j m => chk (f j) (d + 1) m) (m + 1) (j + 1)).1 ≠ 0 → stepN (fun j m => chk (f j) (d + 1) m) (m + 1) n = stepN (fun j m => chk (f j) (d + 1) m) (m + 1) (j + 1)) := fun h => stepN_stuck (by omega) h
          generalize stepN (fun j m => chk (f j) (d + 1) m) (m + 1) j = q at *
          obtain ⟨q1, HQ1⟩ : ∃ q1, Hid (stepN (fun j m => chk (f j) (d + 1) m) (m + 1) (j + 1) = q1) := ⟨_, rfl⟩
          rw [HQ1.out] at HS HT
          obtain ⟨qe, qm⟩ := q
          simp only at HZ HM hB HS
          have HC : Hid (∀ W, Below wr.heap.size wr W → Calls Try.prog 93 #[(f j).val, .int .i64 ((d : Int) + 1), .pointer (some ⟨b, 0, none⟩)] W fun e w' => e = .returned (.int .i64 q1.1) ∧ Box w' b #[.int .i64 q1.2] 3 ∧ But (fun k => k = b) W w') := by
            intro W hW
            have h := ih j W S b (d + 1) qm (((HI.out.sub hjn).but hK (fun x hx _ e => hS (e ▸ hx))).below hW) hS (hB.below hW) HM.out (HD.out (by omega))
            rw [← HS.out] at h
            exact h
          unfold VT.val at HC
          obtain ⟨xk, xi, xs, xn, xp, xc, xf, hx⟩ := (HI.out.sub hjn).mk_
          simp only [VT.item_mk] at hx
          clear ih HI hat hB HS HM
          rw [hx] at a0 a1 a2 a3 HC
          clear hx
          simp only [VT.kind_mk, VT.int_mk, VT.text_mk, VT.p_mk, VT.n_mk, VT.c_mk] at a0 a1 a2 a3 HC
          obtain ⟨r, rm⟩ := q1
          simp only at HC HT
          by_cases hr : r = 0
          · subst hr
            clear HT
            go_wp2_with (go_at_call 93; refine (HC.out _ ?_).mono ?_; exact (Below.refl _ _).alloc (Nat.le_refl _) _; rintro e w4 ⟨rfl, hB4, hK4⟩)
            go_roundw
            case rel => exact ⟨j + 1, by omega, by go_num, by rw [HQ1.out]; rfl, by rw [HQ1.out]; exact hB4, (hK.alloc _).trans hK4⟩
            case measure => simp [intOf]; omega
          · have hr' : ((r : Int) == 0) = false := by rw [beq_eq_false_iff_ne]; omega
            have HT2 : Hid (stepN (fun j m => chk (f j) (d + 1) m) (m + 1) n = (r, rm)) := HT.out (by simpa using hr)
            clear HT
            go_wp2_with (go_at_call 93; refine (HC.out _ ?_).mono ?_; exact (Below.refl _ _).alloc (Nat.le_refl _) _; rintro e w4 ⟨rfl, hB4, hK4⟩)
            go_ret
            rw [HT2.out]
            exact ⟨rfl, hB4, (hK.alloc _).trans hK4⟩
        · obtain rfl : j = n := by omega
          clear ih HI
          go_wp2
          go_ret
          exact ⟨by rw [HZ.out]; rfl, hB, hK⟩
end Go.Proofs.Ytckopbkhpbhljaa
