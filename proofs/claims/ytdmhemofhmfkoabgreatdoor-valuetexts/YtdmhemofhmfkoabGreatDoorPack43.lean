import Derived.Test.YtdmhemofhmfkoabGreatDoorPack1
import Derived.Test.YtdmhemofhmfkoabGreatDoorPack24
import Derived.Test.YtdmhemofhmfkoabGreatDoorFlatBad
import Derived.Test.YtdmhemofhmfkoabGreatDoorPack41
import Derived.Test.YtdmhemofhmfkoabGreatDoorRTxT
import Derived.Test.YtdmhemofhmfkoabGreatDoorPack20
import Derived.Test.YtdmhemofhmfkoabGreatDoorPack4
namespace Go.Proofs.YtdmhemofhmfkoabGreatDoor
open Go.RowKit
set_option maxRecDepth 8000

theorem chk_many {k i : Int} {s : ByteArray} {n : Nat} {p : Option Addr} {c : Nat} {f : Nat → VT} {d m : Nat} (h : 12 ≤ m) : chk (.mk k i s n p c f) d m = (22, m + 1) := by rw [chk_eq, if_pos h]
theorem chk_kind {k i : Int} {s : ByteArray} {n : Nat} {p : Option Addr} {c : Nat} {f : Nat → VT} {d m : Nat} (h : ¬ 12 ≤ m) (h2 : fitB k i s n = false) : chk (.mk k i s n p c f) d m = (20, m + 1) := by rw [chk_eq, if_neg h, if_pos h2]
theorem chk_deep {k i : Int} {s : ByteArray} {n : Nat} {p : Option Addr} {c : Nat} {f : Nat → VT} {d m : Nat} (h : ¬ 12 ≤ m) (h2 : ¬ fitB k i s n = false) (h3 : k = 3 ∧ 3 ≤ d) : chk (.mk k i s n p c f) d m = (23, m + 1) := by rw [chk_eq, if_neg h, if_neg h2, if_pos h3]
theorem chk_text {k i : Int} {s : ByteArray} {n : Nat} {p : Option Addr} {c : Nat} {f : Nat → VT} {d m : Nat} (h : ¬ 12 ≤ m) (h2 : ¬ fitB k i s n = false) (h3 : ¬ (k = 3 ∧ 3 ≤ d)) (h4 : 24 < s.size) : chk (.mk k i s n p c f) d m = (21, m + 1) := by rw [chk_eq, if_neg h, if_neg h2, if_neg h3, if_pos h4]
theorem chk_items {k i : Int} {s : ByteArray} {n : Nat} {p : Option Addr} {c : Nat} {f : Nat → VT} {d m : Nat} (h : ¬ 12 ≤ m) (h2 : ¬ fitB k i s n = false) (h3 : ¬ (k = 3 ∧ 3 ≤ d)) (h4 : ¬ 24 < s.size) (h5 : 6 < n) : chk (.mk k i s n p c f) d m = (22, m + 1) := by rw [chk_eq, if_neg h, if_neg h2, if_neg h3, if_neg h4, if_pos h5]
theorem chk_step {k i : Int} {s : ByteArray} {n : Nat} {p : Option Addr} {c : Nat} {f : Nat → VT} {d m : Nat} (h : ¬ 12 ≤ m) (h2 : ¬ fitB k i s n = false) (h3 : ¬ (k = 3 ∧ 3 ≤ d)) (h4 : ¬ 24 < s.size) (h5 : ¬ 6 < n) : chk (.mk k i s n p c f) d m = stepN (fun j m => chk (f j) (d + 1) m) (m + 1) n := by rw [chk_eq, if_neg h, if_neg h2, if_neg h3, if_neg h4, if_neg h5]

set_option maxHeartbeats 4000000 in
theorem checkPart_any (t : VT) : ∀ (w : World) (S : Nat → Prop) (b d m : Nat), VT.In w S t → ¬ S b → Box w b #[.int .i64 m] 3 → m ≤ 12 → d ≤ 3 →
    Calls Tryz.prog 40 #[t.val, .int .i64 d, .pointer (some ⟨b, 0, none⟩)] w fun e w' => e = .returned (.int .i64 (chk t d m).1) ∧ Box w' b #[.int .i64 (chk t d m).2] 3 ∧ But (fun k => k = b) w w' := by
  induction t with
  | nil => intro w S b d m hin; exact hin.elim
  | mk k i s n p c f ih =>
    intro w S b d m hin hS hb hm hd
    have hnn := hin.fit.nn
    simp only [VT.n_mk] at hnn
    simp only [VT.val, VT.kind_mk, VT.int_mk, VT.text_mk, VT.p_mk, VT.n_mk, VT.c_mk]
    have hc := hb.cell 0
    have hf := hb.frozen 0
    have hlt := hb.lt
    simp at hc
    have hW0 : But (fun k => k = b) w ((w.setCell ⟨b, 0, none⟩ (.int .i64 ((m : Int) + 1))).alloc (.cells #[.int .i64 k, .int .i64 i, .string s, .slice p n c] 24)) := ((But.refl (fun k => k = b) w).setCell (p := ⟨b, 0, none⟩) (fun _ => rfl) _).alloc _
    have hWb : Box ((w.setCell ⟨b, 0, none⟩ (.int .i64 ((m : Int) + 1))).alloc (.cells #[.int .i64 k, .int .i64 i, .string s, .slice p n c] 24)) b #[.int .i64 ((m + 1 : Nat) : Int)] 3 := by
      have h := hb.set 0 (.int .i64 ((m : Int) + 1))
      have h2 : Box (w.setCell ⟨b, 0, none⟩ (.int .i64 ((m : Int) + 1))) b #[.int .i64 ((m + 1 : Nat) : Int)] 3 := by simpa using h
      exact h2.below ((Below.refl _ _).alloc (Nat.le_refl _) _)
    have hWv : Box ((w.setCell ⟨b, 0, none⟩ (.int .i64 ((m : Int) + 1))).alloc (.cells #[.int .i64 k, .int .i64 i, .string s, .slice p n c] 24)) w.heap.size #[.int .i64 k, .int .i64 i, .string s, .slice p n c] 24 := by
      have h := Box.new (w.setCell ⟨b, 0, none⟩ (.int .i64 ((m : Int) + 1))) #[.int .i64 k, .int .i64 i, .string s, .slice p n c] 24
      simpa [World.setCell] using h
    have HF := fits_any k i s n p c ((w.setCell ⟨b, 0, none⟩ (.int .i64 ((m : Int) + 1))).alloc (.cells #[.int .i64 k, .int .i64 i, .string s, .slice p n c] 24))
    have HW : Hid (Box ((w.setCell ⟨b, 0, none⟩ (.int .i64 ((m : Int) + 1))).alloc (.cells #[.int .i64 k, .int .i64 i, .string s, .slice p n c] 24)) b #[.int .i64 ((m + 1 : Nat) : Int)] 3 ∧
      Box ((w.setCell ⟨b, 0, none⟩ (.int .i64 ((m : Int) + 1))).alloc (.cells #[.int .i64 k, .int .i64 i, .string s, .slice p n c] 24)) w.heap.size #[.int .i64 k, .int .i64 i, .string s, .slice p n c] 24 ∧
      But (fun k => k = b) w ((w.setCell ⟨b, 0, none⟩ (.int .i64 ((m : Int) + 1))).alloc (.cells #[.int .i64 k, .int .i64 i, .string s, .slice p n c] 24))) := ⟨hWb, hWv, hW0⟩
    have HI : Hid (VT.In w S (.mk k i s n p c f)) := hin
    clear hin hb hWb hWv hW0
    by_cases h1 : 12 ≤ m
    · rw [chk_many h1]
      have h1' : (12 : Int) < (m : Int) + 1 := by omega
      clear ih HF
      go_enter Tryz.func40, Tryz.ntmps40
      go_wp2_with fail
      go_ret
      exact ⟨rfl, HW.out.1, HW.out.2.2⟩
    have h1' : ¬ (12 : Int) < (m : Int) + 1 := by omega
    by_cases h2 : fitB k i s n = false
    · rw [chk_kind h1 h2]
      rw [h2] at HF
      clear ih
      go_enter Tryz.func40, Tryz.ntmps40
      go_wp2_with (go_at_call 78; refine HF.mono ?_; rintro e w1 ⟨rfl, hb1⟩)
      go_ret
      exact ⟨rfl, HW.out.1.below hb1, HW.out.2.2.trans (But.ofBelow hb1)⟩
    have h2' : fitB k i s n = true := by simpa using h2
    rw [h2'] at HF
    by_cases h3 : k = 3 ∧ 3 ≤ d
    · rw [chk_deep h1 h2 h3]
      obtain ⟨rfl, h3⟩ := h3
      have h3' : (3 : Int) ≤ (d : Int) := by omega
      clear ih
      go_enter Tryz.func40, Tryz.ntmps40
      go_wp2_with (go_at_call 78; refine HF.mono ?_; rintro e w1 ⟨rfl, hb1⟩; have y0 := (HW.out.2.1.below hb1).cell 0; simp at y0)
      go_ret
      exact ⟨rfl, HW.out.1.below hb1, HW.out.2.2.trans (But.ofBelow hb1)⟩
    have h3' : (k == 3) = false ∨ (k = 3 ∧ ¬ (3 : Int) ≤ (d : Int)) := by
      by_cases hk : k = 3
      · exact .inr ⟨hk, fun h => h3 ⟨hk, by omega⟩⟩
      · exact .inl (by rw [beq_eq_false_iff_ne]; exact hk)
    by_cases h4 : 24 < s.size
    · rw [chk_text h1 h2 h3 h4]
      have h4' : (24 : Int) < (s.size : Int) := by omega
      clear ih h3
      rcases h3' with h3 | ⟨rfl, h3⟩
      all_goals
        go_enter Tryz.func40, Tryz.ntmps40
        go_wp2_with (go_at_call 78; refine HF.mono ?_; rintro e w1 ⟨rfl, hb1⟩; have y0 := (HW.out.2.1.below hb1).cell 0; have y2 := (HW.out.2.1.below hb1).cell 2; simp at y0 y2)
        go_ret
        exact ⟨rfl, HW.out.1.below hb1, HW.out.2.2.trans (But.ofBelow hb1)⟩
    have h4' : ¬ (24 : Int) < (s.size : Int) := by omega
    by_cases h5 : 6 < n
    · rw [chk_items h1 h2 h3 h4 h5]
      have h5' : (6 : Int) < (n : Int) := by omega
      clear ih h3
      rcases h3' with h3 | ⟨rfl, h3⟩
      all_goals
        go_enter Tryz.func40, Tryz.ntmps40
        go_wp2_with (go_at_call 78; refine HF.mono ?_; rintro e w1 ⟨rfl, hb1⟩; have y0 := (HW.out.2.1.below hb1).cell 0; have y2 := (HW.out.2.1.below hb1).cell 2; have y3 := (HW.out.2.1.below hb1).cell 3; simp at y0 y2 y3)
        go_ret
        exact ⟨rfl, HW.out.1.below hb1, HW.out.2.2.trans (But.ofBelow hb1)⟩
    have h5' : ¬ (6 : Int) < (n : Int) := by omega
    rw [chk_step h1 h2 h3 h4 h5]
    have HD : Hid (0 < n → d + 1 ≤ 3) := fun hn => by
      have hk : k = 3 := by simp [fitB] at h2'; omega
      exact Nat.lt_of_not_le fun h => h3 ⟨hk, h⟩
    clear h3
    rcases h3' with h3 | ⟨rfl, h3⟩
    all_goals
      go_enter Tryz.func40, Tryz.ntmps40
      go_wp2_with (go_at_call 78; refine HF.mono ?_; rintro e w1 ⟨rfl, hb1⟩; have y0 := (HW.out.2.1.below hb1).cell 0; have y2 := (HW.out.2.1.below hb1).cell 2; have y3 := (HW.out.2.1.below hb1).cell 3; simp at y0 y2 y3)
      have hB1 : Box w1 b #[.int .i64 ((m + 1 : Nat) : Int)] 3 := HW.out.1.below hb1
      have hK1 : But (fun k => k = b) w w1 := HW.out.2.2.trans (But.ofBelow hb1)
      clear HF hb1 y0 y2 y3 HW
      go_loopw [45] (fun x wr => ∃ j : Nat, j ≤ n ∧ x = .int .i64 j ∧ Hid ((stepN (fun j m => chk (f j) (d + 1) m) (m + 1) j).1 = 0) ∧ Box wr b #[.int .i64 (((stepN (fun j m => chk (f j) (d + 1) m) (m + 1) j).2 : Nat) : Int)] 3 ∧ But (fun k => k = b) w wr) (fun x _ => n - (intOf x).toNat)
      case atStart => exact ⟨0, Nat.zero_le _, rfl, rfl, hB1, hK1⟩
      case round =>
        obtain ⟨j, hj, rfl, HZ, hB, hK⟩ := hrel
        clear hB1 hK1
        by_cases hjn : j < n
        · have hjn' : (j : Int) < (n : Int) := by omega
          obtain ⟨bb, o, hp, hSb, hbl, hat⟩ := HI.out.at_ (show 0 < (VT.mk _ i s n p c f).n from by simp only [VT.n]; omega)
          simp only [VT.p_mk] at hp
          subst hp
          have hne : bb ≠ b := fun e => hS (e ▸ hSb)
          obtain ⟨a0, a1, a2, a3⟩ := (hat j hjn).kept (hK.block bb hbl hne)
          simp only [VT.item_mk] at a0 a1 a2 a3
          have HM : Hid ((stepN (fun j m => chk (f j) (d + 1) m) (m + 1) j).2 ≤ 12) := (stepN_le (fun j m hm => chk_le (f j) (d + 1) m hm) (by omega) j).2 HZ.out
          have HS : Hid (stepN (fun j m => chk (f j) (d + 1) m) (m + 1) (j + 1) = chk (f j) (d + 1) (stepN (fun j m => chk (f j) (d + 1) m) (m + 1) j).2) := stepN_succ HZ.out
          have HT : Hid ((stepN (fun j m => chk (f j) (d + 1) m) (m + 1) (j + 1)).1 ≠ 0 → stepN (fun j m => chk (f j) (d + 1) m) (m + 1) n = stepN (fun j m => chk (f j) (d + 1) m) (m + 1) (j + 1)) := fun h => stepN_stuck (by omega) h
          generalize stepN (fun j m => chk (f j) (d + 1) m) (m + 1) j = q at *
          obtain ⟨q1, HQ1⟩ : ∃ q1, Hid (stepN (fun j m => chk (f j) (d + 1) m) (m + 1) (j + 1) = q1) := ⟨_, rfl⟩
          rw [HQ1.out] at HS HT
          obtain ⟨qe, qm⟩ := q
          simp only at HZ HM hB HS
          have HC : Hid (∀ W, Below wr.heap.size wr W → Calls Tryz.prog 40 #[(f j).val, .int .i64 ((d : Int) + 1), .pointer (some ⟨b, 0, none⟩)] W fun e w' => e = .returned (.int .i64 q1.1) ∧ Box w' b #[.int .i64 q1.2] 3 ∧ But (fun k => k = b) W w') := by
            intro W hW
            have h := ih j W S b (d + 1) qm (((HI.out.sub hjn).but hK (fun x hx _ e => hS (e ▸ hx))).below hW) hS (hB.below hW) HM.out (HD.out (by omega))
            rw [← HS.out] at h
            exact h
          unfold VT.val at HC
          obtain ⟨xk, xi, xs, xn, xp, xc, xf, hx⟩ := (HI.out.sub hjn).mk_
          simp only [VT.item_mk] at hx
          clear ih HI hat hB HS HM
          rw [hx] at a0 a1 a2 a3 HC
          clear hx
          simp only [VT.kind_mk, VT.int_mk, VT.text_mk, VT.p_mk, VT.n_mk, VT.c_mk] at a0 a1 a2 a3 HC
          obtain ⟨r, rm⟩ := q1
          simp only at HC HT
          by_cases hr : r = 0
          · subst hr
            clear HT
            go_wp2_with (go_at_call 40; refine (HC.out _ ?_).mono ?_; exact (Below.refl _ _).alloc (Nat.le_refl _) _; rintro e w4 ⟨rfl, hB4, hK4⟩)
            go_roundw
            case rel => exact ⟨j + 1, by omega, by go_num, by rw [HQ1.out]; rfl, by rw [HQ1.out]; exact hB4, (hK.alloc _).trans hK4⟩
            case measure => simp [intOf]; omega
          · have hr' : ((r : Int) == 0) = false := by rw [beq_eq_false_iff_ne]; omega
            have HT2 : Hid (stepN (fun j m => chk (f j) (d + 1) m) (m + 1) n = (r, rm)) := HT.out (by simpa using hr)
            clear HT
            go_wp2_with (go_at_call 40; refine (HC.out _ ?_).mono ?_; exact (Below.refl _ _).alloc (Nat.le_refl _) _; rintro e w4 ⟨rfl, hB4, hK4⟩)
            go_ret
            rw [HT2.out]
            exact ⟨rfl, hB4, (hK.alloc _).trans hK4⟩
        · obtain rfl : j = n := by omega
          clear ih HI
          go_wp2
          go_ret
          exact ⟨by rw [HZ.out]; rfl, hB, hK⟩
end Go.Proofs.YtdmhemofhmfkoabGreatDoor

namespace Go.Proofs.YtdmhemofhmfkoabGreatDoor
open Go.RowKit
set_option maxRecDepth 8000

/-- what flat answers -/
def FlatPost (base : Nat) (w : World) (v : Value) (err : Nat) (l : List PT) (r : Ending) (w' : World) : Prop := ∃ v', r = .returned (.tuple #[v', .int .i64 err]) ∧ Laid w w' v v' ∧ (err = 0 → w'.ownsRow base 122 4 v' l.length (ptCells l))
theorem ptCells_append (a b : List PT) : ptCells (a ++ b) = ptCells a ++ ptCells b := by simp [ptCells]

set_option maxHeartbeats 4000000 in
theorem flat_list (s : ByteArray) (n : Nat) (p : Option Addr) (c : Nat) (f : Nat → VT) (ih : ∀ (a : Nat) (w : World) (S : Nat → Prop) (base : Nat) (v : Value) (l : List PT) (d : Nat), VT.In w S (f a) → (∀ b, S b → v.ownBlock ≠ some b) → w.ownsRow base 122 4 v l.length (ptCells l) → base ≤ w.heap.size → l.length ≤ 12 → d ≤ 3 →
      Calls Tryz.prog 88 #[(f a).val, .int .i64 d, v] w fun r w' => ∃ v', r = .returned (.tuple #[v', .int .i64 (chk (f a) d l.length).1]) ∧ Laid w w' v v' ∧ ((chk (f a) d l.length).1 = 0 → w'.ownsRow base 122 4 v' (l ++ flatP (f a)).length (ptCells (l ++ flatP (f a)))))
    (l : List PT) (q : Option Addr) (m e d base : Nat) (w : World) (S : Nat → Prop) (hin : VT.In w S (.mk 3 0 s n p c f)) (hS : ∀ b, S b → (Value.slice q m e).ownBlock ≠ some b) (hl : l.length = m) (hm : m < 12) (_hm : ¬ (12 : Int) ≤ (m : Int)) (_hs : s.toList = []) (hd : d < 3) (_hd : ¬ (3 : Int) ≤ (d : Int)) (_hn : 0 < n) (_hw : ¬ (6 : Int) < (n : Int)) (hz : ¬ (24 : Int) < (s.size : Int)) (hR : w.ownsRow base 122 4 (.slice q m e) m (ptCells l)) (hbase : base ≤ w.heap.size) :
    Calls Tryz.prog 88 #[.agg #[.int .i64 3, .int .i64 0, .string s, .slice p n c], .int .i64 d, .slice q m e] w fun r w' => ∃ v', r = .returned (.tuple #[v', .int .i64 (stepN (fun j m => chk (f j) (d + 1) m) (m + 1) n).1]) ∧ Laid w w' (.slice q m e) v' ∧ ((stepN (fun j m => chk (f j) (d + 1) m) (m + 1) n).1 = 0 → w'.ownsRow base 122 4 v' (l ++ flatP (.mk 3 0 s n p c f)).length (ptCells (l ++ flatP (.mk 3 0 s n p c f)))) := by
  obtain ⟨i0, Kd⟩ := kindP
  have HL : Hid (l.length = m) := hl
  have HN : Hid (∀ j u, [Value.int .i64 3, Value.int .i64 0, Value.string s, Value.int .i64 (n : Int)][j]? = some u → ((w.alloc (.cells #[.int .i64 3, .int .i64 0, .string s, .slice p n c] 24)).alloc (.cells #[.int .i64 3, .int .i64 0, .string s, .int .i64 (n : Int)] 122)).cell? ((⟨w.heap.size + 1, 0, none⟩ : Addr).add j) = some u) := by
    unfold Hid
    have h := news4 (w.alloc (.cells #[.int .i64 3, .int .i64 0, .string s, .slice p n c] 24)) (.int .i64 3) (.int .i64 0) (.string s) (.int .i64 (n : Int)) 122
    rw [show (w.alloc (.cells #[.int .i64 3, .int .i64 0, .string s, .slice p n c] 24)).heap.size = w.heap.size + 1 by simp] at h
    exact h
  have HI : Hid (VT.In w S (.mk 3 0 s n p c f)) := hin
  have HSS : Hid (∀ b, S b → (Value.slice q m e).ownBlock ≠ some b) := hS
  clear hl hin hS
  go_enter Tryz.func88, Tryz.ntmps88
  go_wp2_with (at_builtin; refine wpList_app rfl (.tmp 79) (.tmp 90) 84 122 i0 _ 4 40 Kd rfl base (.slice q m e) m (ptCells l) rfl ((hR.alloc _).alloc _) ⟨w.heap.size + 1, 0, none⟩ 1 1 [.int .i64 3, .int .i64 0, .string s, .int .i64 (n : Int)] rfl rfl HN.out (oneCell_pt (PT.mk 3 0 s n)) (by omega) (by omega) (by simp; omega) ?_)
  intro v' w1 ho hg hn
  have hM : More base w w1 (.slice q m e) v' (l ++ [PT.mk 3 0 s n]) :=
    More.of (((Below.refl _ _).alloc (Nat.le_refl _) _).alloc (by simp) _) (by rw [HL.out]; exact ho) hg hn
  have hne : ∀ g, v'.ownBlock = some g → g ≠ w.heap.size := by
    intro g hg2 e
    subst e
    rcases hn with h1 | h1
    · have := (hR.lt _ (h1 ▸ hg2)).2; omega
    · have := h1 _ hg2; simp at this; omega
  have hbx : Box w1 w.heap.size #[.int .i64 3, .int .i64 0, .string s, .slice p n c] 24 := by
    refine ((Box.new w _ 24).below ((Below.refl _ _).alloc (Nat.le_refl _) (.cells #[.int .i64 3, .int .i64 0, .string s, .int .i64 (n : Int)] 122))).kept (hg.block _ (by simp; omega) fun h => ?_)
    have := (hR.lt _ h.symm).2
    omega
  clear ho hg hn HN
  go_wp2_with fail
  go_loopw [2, 9] (fun v x wr => ∃ j : Nat, j ≤ n ∧ x = .int .i64 j ∧ Hid ((stepN (fun j m => chk (f j) (d + 1) m) (m + 1) j).1 = 0) ∧ Hid ((stepN (fun j m => chk (f j) (d + 1) m) (m + 1) j).2 = (l ++ [PT.mk 3 0 s n] ++ flatN f j).length) ∧ More base w wr (.slice q m e) v (l ++ [PT.mk 3 0 s n] ++ flatN f j) ∧
      Box wr w.heap.size #[.int .i64 3, .int .i64 0, .string s, .slice p n c] 24 ∧ (∀ g, v.ownBlock = some g → g ≠ w.heap.size)) (fun _ x _ => n - (intOf x).toNat)
  case atStart => exact ⟨0, Nat.zero_le _, rfl, rfl, by simp [stepN, flatN, HL.out, Hid], by simpa [flatN] using hM, hbx, hne⟩
  case round =>
    obtain ⟨j, hj, rfl, HZ, HY, hMj, hBx, hNe⟩ := hrel
    clear hM hbx hne
    have y3 := hBx.cell 3
    simp at y3
    by_cases hjn : j < n
    · have hjn' : (j : Int) < (n : Int) := by omega
      obtain ⟨bb, o, hp, hSb, hbl, hat⟩ := HI.out.at_ (show 0 < (VT.mk 3 0 s n p c f).n from by simp only [VT.n]; omega)
      simp only [VT.p_mk] at hp
      subst hp
      obtain ⟨a0, a1, a2, a3⟩ := (hat j hjn).kept (hMj.laid.but.block bb hbl (HSS.out bb hSb))
      simp only [VT.item_mk] at a0 a1 a2 a3
      have HM : Hid ((stepN (fun j m => chk (f j) (d + 1) m) (m + 1) j).2 ≤ 12) := (stepN_le (fun j m hm => chk_le (f j) (d + 1) m hm) (by omega) j).2 HZ.out
      have HS : Hid (stepN (fun j m => chk (f j) (d + 1) m) (m + 1) (j + 1) = chk (f j) (d + 1) (stepN (fun j m => chk (f j) (d + 1) m) (m + 1) j).2) := stepN_succ HZ.out
      have HT : Hid ((stepN (fun j m => chk (f j) (d + 1) m) (m + 1) (j + 1)).1 ≠ 0 → stepN (fun j m => chk (f j) (d + 1) m) (m + 1) n = stepN (fun j m => chk (f j) (d + 1) m) (m + 1) (j + 1)) := fun h => stepN_stuck (by omega) h
      have HLen : Hid ((chk (f j) (d + 1) (l ++ [PT.mk 3 0 s n] ++ flatN f j).length).1 = 0 → (chk (f j) (d + 1) (l ++ [PT.mk 3 0 s n] ++ flatN f j).length).2 = (l ++ [PT.mk 3 0 s n] ++ flatN f (j + 1)).length) := by
        intro h
        rw [chk_len _ _ _ h, flatN_succ]
        simp only [List.length_append]; omega
      rw [HY.out] at HM HS
      rw [← HS.out] at HLen
      obtain ⟨q1, HQ1⟩ : ∃ q1, Hid (stepN (fun j m => chk (f j) (d + 1) m) (m + 1) (j + 1) = q1) := ⟨_, rfl⟩
      rw [HQ1.out] at HS HT HLen
      have HC : Hid (Calls Tryz.prog 88 #[(f j).val, .int .i64 ((d : Int) + 1), u2] wr fun r w' => FlatPost base wr u2 q1.1 (l ++ [PT.mk 3 0 s n] ++ flatN f (j + 1)) r w') := by
        have h := ih j wr (fun b => S b ∧ b < w.heap.size) base u2 (l ++ [PT.mk 3 0 s n] ++ flatN f j) (d + 1) (((HI.out.sub hjn).mono fun b hb hl => ⟨hb, hl⟩).kept hMj.laid.but.size (fun b hb hl => hMj.laid.but.block b hb.2 (HSS.out b hb.1))) ?_ hMj.own (Nat.le_trans hbase hMj.laid.but.size) HM.out (by omega)
        · rw [← HS.out] at h
          rw [flatN_succ, ← List.append_assoc]
          exact h
        · intro b hb e2
          rcases hMj.laid.near with h1 | h1
          · exact HSS.out b hb.1 (h1 ▸ e2)
          · have := h1 b e2; omega
      unfold VT.val at HC
      obtain ⟨xk, xi, xs, xn, xp, xc, xf, hx⟩ := (HI.out.sub hjn).mk_
      simp only [VT.item_mk] at hx
      clear ih hat HS HM HY
      rw [hx] at a0 a1 a2 a3 HC
      clear hx
      simp only [VT.kind_mk, VT.int_mk, VT.text_mk, VT.p_mk, VT.n_mk, VT.c_mk] at a0 a1 a2 a3 HC
      obtain ⟨r, rm⟩ := q1
      simp only at HC HT HLen
      have HMj : Hid (More base w wr (.slice q m e) u2 (l ++ [PT.mk 3 0 s n] ++ flatN f j) ∧ Box wr w.heap.size #[.int .i64 3, .int .i64 0, .string s, .slice (some ⟨bb, o, none⟩) n c] 24) := ⟨hMj, hBx⟩
      clear hMj hBx hR
      by_cases hr : r = 0
      · subst hr
        clear HT
        go_wp2_with (go_at_call 88; refine HC.out.mono ?_)
        intro r w4 hP
        obtain ⟨v4, rfl, hL4, ho4⟩ := hP
        have HM4 : Hid (More base w w4 (.slice q m e) v4 (l ++ [PT.mk 3 0 s n] ++ flatN f (j + 1))) := ⟨HMj.out.1.laid.trans hL4, by have h := ho4 rfl; simpa only [List.append_assoc, List.singleton_append] using h⟩
        have HB4 : Hid (Box w4 w.heap.size #[.int .i64 3, .int .i64 0, .string s, .slice (some ⟨bb, o, none⟩) n c] 24) := HMj.out.2.but hL4.but (fun h => hNe _ h rfl)
        have HN4 : Hid (∀ g, v4.ownBlock = some g → g ≠ w.heap.size) := by
          intro g hg e2
          subst e2
          rcases hL4.near with h1 | h1
          · exact hNe _ (h1 ▸ hg) rfl
          · have := h1 _ hg
            have := HMj.out.2.lt
            omega
        clear HMj hL4 ho4 a0 a1 a2 a3 y3 hNe
        go_wp2
        go_roundw
        case rel => exact ⟨j + 1, by omega, by go_num, by rw [HQ1.out]; rfl, by rw [HQ1.out]; unfold Hid; have h := HLen.out; simpa [List.append_assoc] using h, HM4.out, HB4.out, HN4.out⟩
        case measure => simp [intOf]; omega
      · have hr' : ¬ ((r : Int) = 0) := by omega
        have HT2 : Hid (stepN (fun j m => chk (f j) (d + 1) m) (m + 1) n = (r, rm)) := HT.out (by simpa using hr)
        clear HT
        go_wp2_with (go_at_call 88; refine HC.out.mono ?_)
        intro x w4 hP
        obtain ⟨v4, rfl, hL4, ho4⟩ := hP
        clear ho4
        go_wp2
        go_ret2
        refine ⟨v4, ?_, HMj.out.1.laid.trans hL4, fun h => ?_⟩
        · rw [HT2.out]; rfl
        · rw [HT2.out] at h; exact absurd h hr
    · obtain rfl : j = n := by omega
      clear ih HI hR
      go_wp2
      go_ret2
      refine ⟨u2, by rw [HZ.out]; rfl, hMj.laid, fun _ => ?_⟩
      have h := hMj.own
      rw [flatP_eq]
      rw [List.append_assoc] at h
      exact h

set_option maxHeartbeats 1000000 in
theorem flat_any (t : VT) : ∀ (w : World) (S : Nat → Prop) (base : Nat) (v : Value) (l : List PT) (d : Nat), VT.In w S t → (∀ b, S b → v.ownBlock ≠ some b) → w.ownsRow base 122 4 v l.length (ptCells l) → base ≤ w.heap.size → l.length ≤ 12 → d ≤ 3 →
      Calls Tryz.prog 88 #[t.val, .int .i64 d, v] w fun r w' => ∃ v', r = .returned (.tuple #[v', .int .i64 (chk t d l.length).1]) ∧ Laid w w' v v' ∧ ((chk t d l.length).1 = 0 → w'.ownsRow base 122 4 v' (l ++ flatP t).length (ptCells (l ++ flatP t))) := by
  induction t with
  | nil => intro w S base v l d hin; exact hin.elim
  | mk k i s n p c f ih =>
    intro w S base v l d hin hS hR hbase hm hd
    obtain ⟨q, e, rfl⟩ := ownsRow_slice hR
    have bad : ∀ x : Nat, x ≠ 0 → (∀ y, chk (.mk k i s n p c f) d l.length = y → y.1 = x) → Calls Tryz.prog 88 #[(VT.mk k i s n p c f).val, .int .i64 d, .slice q l.length e] w (fun r w' => r = .returned (.tuple #[.slice q l.length e, .int .i64 (x : Int)]) ∧ Below w.heap.size w w') →
        Calls Tryz.prog 88 #[(VT.mk k i s n p c f).val, .int .i64 d, .slice q l.length e] w fun r w' => ∃ v', r = .returned (.tuple #[v', .int .i64 (chk (.mk k i s n p c f) d l.length).1]) ∧ Laid w w' (.slice q l.length e) v' ∧ ((chk (.mk k i s n p c f) d l.length).1 = 0 → w'.ownsRow base 122 4 v' (l ++ flatP (.mk k i s n p c f)).length (ptCells (l ++ flatP (.mk k i s n p c f)))) := by
      intro x hx hy h
      refine h.mono fun r w' hr => ?_
      obtain ⟨rfl, hb⟩ := hr
      rw [hy _ rfl]
      exact ⟨_, rfl, ⟨.inl rfl, But.ofBelow hb⟩, fun h => absurd h hx⟩
    by_cases h1 : 12 ≤ l.length
    · exact bad 22 (by decide) (fun y h => by rw [← h, chk_many h1]) (flat_many k i s n p c q l.length e d w h1)
    have h1' : ¬ (12 : Int) ≤ (l.length : Int) := by omega
    by_cases h2 : fitB k i s n = false
    · exact bad 20 (by decide) (fun y h => by rw [← h, chk_kind h1 h2]) (flat_kind k i s n p c q l.length e d w h1 h2)
    have good : ∀ {k i : Int} {s : ByteArray} {p : Option Addr} {c : Nat} {f : Nat → VT}, (chk (.mk k i s 0 p c f) d l.length) = (0, l.length + 1) → Calls Tryz.prog 88 #[(VT.mk k i s 0 p c f).val, .int .i64 d, .slice q l.length e] w (fun r w' => ∃ v', r = .returned (.tuple #[v', .int .i64 0]) ∧ More base w w' (.slice q l.length e) v' (l ++ [⟨k, i, s, 0⟩])) →
        Calls Tryz.prog 88 #[(VT.mk k i s 0 p c f).val, .int .i64 d, .slice q l.length e] w fun r w' => ∃ v', r = .returned (.tuple #[v', .int .i64 (chk (.mk k i s 0 p c f) d l.length).1]) ∧ Laid w w' (.slice q l.length e) v' ∧ ((chk (.mk k i s 0 p c f) d l.length).1 = 0 → w'.ownsRow base 122 4 v' (l ++ flatP (.mk k i s 0 p c f)).length (ptCells (l ++ flatP (.mk k i s 0 p c f)))) := by
      intro k i s p c f he h
      rw [he]
      refine h.mono fun r w' hr => ?_
      obtain ⟨v', rfl, hM⟩ := hr
      exact ⟨v', rfl, hM.laid, fun _ => hM.own⟩
    have hsz : ∀ {s : ByteArray}, s.toList = [] → ¬ 24 < s.size := by
      intro s h
      rw [ByteArray.toList_eq] at h
      have h2 : s.data.size = 0 := by rw [← Array.length_toList, h]; rfl
      have h3 : s.size = 0 := h2
      omega
    have hszi : ∀ {s : ByteArray}, ¬ 24 < s.size → ¬ (24 : Int) < (s.size : Int) := by intro s h; omega
    have hshp := shp_of (show fitB k i s n = true by simpa using h2)
    cases hshp with
    | none s hs => exact good (chk_step h1 h2 (by omega) (hsz hs) (by omega)) (flat_none s p c l q l.length e d base w rfl (by omega) h1' hs (hszi (hsz hs)) hR hbase)
    | zero s hs => exact good (chk_step h1 h2 (by omega) (hsz hs) (by omega)) (flat_zero s p c l q l.length e d base w rfl (by omega) h1' hs (hszi (hsz hs)) hR hbase)
    | int i s hi hs => exact good (chk_step h1 h2 (by omega) (hsz hs) (by omega)) (flat_int i s p c l q l.length e d base w rfl (by omega) h1' hi hs (hszi (hsz hs)) hR hbase)
    | empty s hs => exact good (chk_step h1 h2 (by omega) (hsz hs) (by omega)) (flat_empty s p c l q l.length e d base w rfl (by omega) h1' hs (hszi (hsz hs)) hR hbase)
    | text s hs =>
      by_cases h4 : 24 < s.size
      · exact bad 21 (by decide) (fun y h => by rw [← h, chk_text h1 h2 (by omega) h4]) (flat_long s p c q l.length e d w h1' hs (by omega))
      · exact good (chk_step h1 h2 (by omega) h4 (by omega)) (flat_text s p c l q l.length e d base w rfl (by omega) h1' hs (hszi h4) hR hbase)
    | bare s hs =>
      by_cases h3 : 3 ≤ d
      · exact bad 23 (by decide) (fun y h => by rw [← h, chk_deep h1 h2 ⟨rfl, h3⟩]) (flat_deep0 s p c q l.length e d w h1' hs (by omega))
      · exact good (chk_step h1 h2 (by omega) (hsz hs) (by omega)) (flat_bare s p c l q l.length e d base w rfl (by omega) h1' hs (by omega) (hszi (hsz hs)) hR hbase)
    | list s n hs hn =>
      by_cases h3 : 3 ≤ d
      · exact bad 23 (by decide) (fun y h => by rw [← h, chk_deep h1 h2 ⟨rfl, h3⟩]) (flat_deep s n p c q l.length e d w h1' hs (by omega) hn)
      by_cases h5 : 6 < n
      · exact bad 22 (by decide) (fun y h => by rw [← h, chk_items h1 h2 (by omega) (hsz hs) h5]) (flat_wide s n p c q l.length e d w h1' hs (hszi (hsz hs)) (by omega) hn (by omega))
      rw [chk_step h1 h2 (by omega) (hsz hs) h5]
      exact flat_list s n p c f ih l q l.length e d base w S hin hS rfl (by omega) h1' hs (by omega) (by omega) hn (by omega) (hszi (hsz hs)) hR hbase
end Go.Proofs.YtdmhemofhmfkoabGreatDoor

namespace Go.Proofs.YtdmhemofhmfkoabGreatDoor
open Go.RowKit
set_option maxRecDepth 8000

def PartsPost (w : World) (t : VT) (e : Ending) (w' : World) : Prop :=
  ∃ g c, e = .returned (.slice (some ⟨g, 0, none⟩) (flatP (cleanT t)).length c) ∧ w'.ownsRow 0 122 4 (.slice (some ⟨g, 0, none⟩) (flatP (cleanT t)).length c) (flatP (cleanT t)).length (ptCells (flatP (cleanT t))) ∧ Below w.heap.size w w'
theorem flatP_pos (t : VT) : 0 < (flatP t).length := by cases t <;> simp [flatP]
theorem own_some {w : World} {base n : Nat} {e : TypeId} {size : Nat} {v : Value} {xs : List Value} (h : w.ownsRow base e size v n xs) (hn : 0 < n) : ∃ g c, v = .slice (some ⟨g, 0, none⟩) n c := by
  obtain ⟨_, ⟨hv, h0⟩ | ⟨g, cap, cur, hv, _⟩⟩ := h
  · omega
  · exact ⟨g, cap, hv⟩

set_option maxHeartbeats 1000000 in
theorem parts_any (t : VT) (w : World) (S : Nat → Prop) (hin : VT.In w S t) :
    Calls Tryz.prog 48 #[t.val] w fun e w' => PartsPost w t e w' := by
  have HC : Hid (∀ W, Below w.heap.size w W → Calls Tryz.prog 88 #[t.val, .int .i64 ((0 : Nat) : Int), .slice none 0 0] W fun r w' => FlatPost 0 W (.slice none 0 0) (chk t 0 0).1 (flatP t) r w') :=
    fun W hW => flat_any t W S 0 (.slice none 0 0) [] 0 (hin.below hW) (fun b _ h => by cases h) (World.ownsRow_nil _ _ _ _) (Nat.zero_le _) (by simp) (by omega)
  obtain ⟨k, i, s, n, p, c, f, ht⟩ := hin.mk_
  clear hin
  unfold PartsPost cleanT
  by_cases h : (chk t 0 0).1 = 0
  · rw [if_pos h]
    rw [h] at HC
    have HP := flatP_pos t
    generalize flatP t = L at *
    simp only [VT.val, ht, VT.kind_mk, VT.int_mk, VT.text_mk, VT.p_mk, VT.n_mk, VT.c_mk] at HC ⊢
    go_enter Tryz.func48, Tryz.ntmps48
    go_wp2_with fail
    refine (HC.out _ ?_).mono ?_
    · exact (Below.refl _ _).alloc (Nat.le_refl _) _
    intro e w1 hP
    obtain ⟨v', rfl, hL, ho⟩ := hP
    have hO := ho rfl
    obtain ⟨g, cp, hv⟩ := own_some hO HP
    have hb1 : Below w.heap.size w w1 := ((Below.refl w.heap.size w).alloc (Nat.le_refl _) _).trans ((hL.but.below (Nat.le_refl _) (fun k _ e => by cases e)).mono (by simp))
    subst hv
    have HO : Hid (w1.ownsRow 0 122 4 (.slice (some ⟨g, 0, none⟩) L.length cp) L.length (ptCells L)) := hO
    clear hL ho hO HC
    go_wp2
    go_ret
    exact ⟨g, cp, rfl, HO.out, hb1⟩
  · rw [if_neg h]
    have h' : ¬ (((chk t 0 0).1 : Int) = 0) := by omega
    generalize (chk t 0 0).1 = r at *
    generalize flatP t = L at *
    simp only [VT.val, ht, VT.kind_mk, VT.int_mk, VT.text_mk, VT.p_mk, VT.n_mk, VT.c_mk] at HC ⊢
    go_enter Tryz.func48, Tryz.ntmps48
    go_wp2_with fail
    refine (HC.out _ ?_).mono ?_
    · exact (Below.refl _ _).alloc (Nat.le_refl _) _
    intro e w1 hP
    obtain ⟨v', rfl, hL, ho⟩ := hP
    have hb1 : Below w.heap.size w w1 := ((Below.refl w.heap.size w).alloc (Nat.le_refl _) _).trans ((hL.but.below (Nat.le_refl _) (fun k _ e => by cases e)).mono (by simp))
    clear hL ho HC
    go_wp2
    go_ret
    refine ⟨w1.heap.size, 1, rfl, ?_, hb1.alloc hb1.size _⟩
    refine ⟨rfl, .inr ⟨w1.heap.size, 1, _, rfl, Nat.zero_le _, Box.new w1 _ _, Nat.le_refl _, by unfold maxLen; omega, rfl, rfl⟩⟩
end Go.Proofs.YtdmhemofhmfkoabGreatDoor

namespace Go.Proofs.YtdmhemofhmfkoabGreatDoor
open Go.RowKit
set_option maxRecDepth 8000
def ShowPost (w : World) (t : VT) (i : Nat) (x : Ending) (w' : World) : Prop := x = .returned (.tuple #[.string (strOf (prB t)), .int .i64 ((i + (flatP t).length : Nat) : Int)]) ∧ Below w.heap.size w w'
def ShowC (t : VT) : Prop := ∀ (w : World) (base : Nat) (L : List PT) (g c i : Nat) (rest : List PT), w.ownsRow base 122 4 (.slice (some ⟨g, 0, none⟩) L.length c) L.length (ptCells L) → L.drop i = flatP t ++ rest → L.length ≤ 12 → Val t →
  Calls Tryz.prog 47 #[.slice (some ⟨g, 0, none⟩) L.length c, .int .i64 i] w fun r w' => ShowPost w t i r w'
set_option maxHeartbeats 2000000 in
theorem show_none (s : ByteArray) (n len : Nat) (g c i : Nat) (j0 : Int) (p : Option Addr) (cc : Nat) (f : Nat → VT) (w : World) (hi : i < len) (hlen : len ≤ 12)
    (c0 : w.cell? ⟨g, i * 4, none⟩ = some (.int .i64 0)) (c1 : w.cell? ⟨g, i * 4 + 1, none⟩ = some (.int .i64 j0)) (c2 : w.cell? ⟨g, i * 4 + 2, none⟩ = some (.string s)) (c3 : w.cell? ⟨g, i * 4 + 3, none⟩ = some (.int .i64 n)) (hn : n = 0) :
    Calls Tryz.prog 47 #[.slice (some ⟨g, 0, none⟩) len c, .int .i64 i] w fun r w' => ShowPost w (.mk 0 j0 s n p cc f) i r w' := by
  have hi' : (i : Int) < (len : Int) := by omega
  subst hn
  have HP : Hid (strOf (prB (.mk 0 j0 s 0 p cc f)) = ⟨#[110, 111, 110, 101]⟩) := by unfold Hid; rfl
  have HL : Hid ((flatP (.mk 0 j0 s 0 p cc f)).length = 1) := by unfold Hid; rfl
  unfold ShowPost
  rw [HP.out, HL.out]
  clear HP HL
  go_enter Tryz.func47, Tryz.ntmps47
  go_wp2
  exact bodyPost_ret (v := .tuple #[.string ⟨#[110, 111, 110, 101]⟩, .int .i64 ((i : Int) + 1)]) (by simp [results, Tryz.results47, go_sem]) rfl ⟨rfl, (Below.refl _ _).alloc (Nat.le_refl _) _⟩
set_option maxHeartbeats 2000000 in
theorem show_int (s : ByteArray) (n len : Nat) (g c i : Nat) (j0 : Int) (p : Option Addr) (cc : Nat) (f : Nat → VT) (w : World) (hi : i < len) (hlen : len ≤ 12)
    (c0 : w.cell? ⟨g, i * 4, none⟩ = some (.int .i64 1)) (c1 : w.cell? ⟨g, i * 4 + 1, none⟩ = some (.int .i64 j0)) (c2 : w.cell? ⟨g, i * 4 + 2, none⟩ = some (.string s)) (c3 : w.cell? ⟨g, i * 4 + 3, none⟩ = some (.int .i64 n)) (hn : n = 0) (hj : -9223372036854775808 ≤ j0) (hj2 : j0 ≤ 9223372036854775807) :
    Calls Tryz.prog 47 #[.slice (some ⟨g, 0, none⟩) len c, .int .i64 i] w fun r w' => ShowPost w (.mk 1 j0 s n p cc f) i r w' := by
  have hi' : (i : Int) < (len : Int) := by omega
  subst hn
  have HP : Hid (prB (.mk 1 j0 s 0 p cc f) = itoaB j0) := by unfold Hid; rfl
  have HL : Hid ((flatP (.mk 1 j0 s 0 p cc f)).length = 1) := by unfold Hid; rfl
  have HC := hid (fun W => refDecimal j0 W hj hj2)
  unfold ShowPost
  rw [HP.out, HL.out]
  clear HP HL hj hj2
  go_enter Tryz.func47, Tryz.ntmps47
  go_wp2_with fail
  refine (HC.out _).mono ?_
  rintro e w1 ⟨rfl, hb1⟩
  have HB := hid (((Below.refl w.heap.size w).alloc (Nat.le_refl _) (.cells #[.int .i64 1, .int .i64 j0, .string s, .int .i64 0] 122)).trans (hb1.mono (by simp)))
  clear hb1 HC
  go_wp2
  exact bodyPost_ret (v := .tuple #[.string (strOf (itoaB j0)), .int .i64 ((i : Int) + 1)]) (by simp [results, Tryz.results47, go_sem]) rfl ⟨rfl, HB.out⟩
set_option maxHeartbeats 2000000 in
theorem show_text (s : ByteArray) (n len : Nat) (g c i : Nat) (j0 : Int) (p : Option Addr) (cc : Nat) (f : Nat → VT) (w : World) (hi : i < len) (hlen : len ≤ 12)
    (c0 : w.cell? ⟨g, i * 4, none⟩ = some (.int .i64 2)) (c1 : w.cell? ⟨g, i * 4 + 1, none⟩ = some (.int .i64 j0)) (c2 : w.cell? ⟨g, i * 4 + 2, none⟩ = some (.string s)) (c3 : w.cell? ⟨g, i * 4 + 3, none⟩ = some (.int .i64 n)) (hn : n = 0) (hs : s.size ≤ 24) :
    Calls Tryz.prog 47 #[.slice (some ⟨g, 0, none⟩) len c, .int .i64 i] w fun r w' => ShowPost w (.mk 2 j0 s n p cc f) i r w' := by
  have hi' : (i : Int) < (len : Int) := by omega
  subst hn
  have HP : Hid (prB (.mk 2 j0 s 0 p cc f) = quoB s) := by unfold Hid; rfl
  have HL : Hid ((flatP (.mk 2 j0 s 0 p cc f)).length = 1) := by unfold Hid; rfl
  have HC := hid (fun W => refQuote_any s hs W)
  unfold ShowPost
  rw [HP.out, HL.out]
  clear HP HL hs
  go_enter Tryz.func47, Tryz.ntmps47
  go_wp2_with fail
  refine (HC.out _).mono ?_
  rintro e w1 ⟨rfl, hb1⟩
  have HB := hid (((Below.refl w.heap.size w).alloc (Nat.le_refl _) (.cells #[.int .i64 2, .int .i64 j0, .string s, .int .i64 0] 122)).trans (hb1.mono (by simp)))
  clear hb1 HC
  go_wp2
  exact bodyPost_ret (v := .tuple #[.string (strOf (quoB s)), .int .i64 ((i : Int) + 1)]) (by simp [results, Tryz.results47, go_sem]) rfl ⟨rfl, HB.out⟩
end Go.Proofs.YtdmhemofhmfkoabGreatDoor

namespace Go.Proofs.YtdmhemofhmfkoabGreatDoor
open Go.RowKit
set_option maxRecDepth 8000
set_option maxHeartbeats 2000000 in
set_option maxRecDepth 200000 in
theorem appendQuoted_any (s : ByteArray) (hs : s.size ≤ 24) (base : Nat) (w : World) (v : Value) (zs : List Int) (hv : OwnBy base w v zs) (hb : base ≤ w.heap.size) (hz : zs.length ≤ 80000) (hT : Tabs base w) :
    Calls Tryz.prog 60 #[v, .string s] w fun e w' => EPost base w (zs ++ quoB s) e w' := by
  obtain ⟨i0, Kd⟩ := kindB
  have HV := hid hv
  have HT := hid hT
  have hrow : w.ownsRow base 5 1 v zs.length (zs.map (Value.int .u8)) := hv
  clear hv hT
  go_enter Tryz.func60, Tryz.ntmps60
  go_wp2_with (at_builtin; refine wpList_app rfl (.tmp 9) (.tmp 10) 25 5 i0 _ 1 1 Kd rfl base v zs.length _ rfl (hrow.alloc _) ⟨w.heap.size, 0, none⟩ 1 1 [.int .u8 34] rfl rfl (cell_one_new _ _ _) (one8 _) (by omega) (by omega) (by simp; omega) ?_)
  intro v1 w1 ho1 hg1 hn1
  have HL1 := hid ((LayB.refl HV.out).one hb ho1 hg1)
  have hsw := HL1.out.bel.size
  clear ho1 hg1 hn1 hrow
  go_wp2_with fail
  have HI : Hid (LayB base w (zs ++ [34] ++ []) v1 (w1.iter s 0) ∧ (w1.iter s 0).heap[w1.heap.size]? = some (.stringIter s 0)) := by
    refine ⟨?_, World.iter_heap w1 s 0⟩
    rw [List.append_nil]
    exact HL1.out.later (by omega) ((Below.refl _ _).alloc (Nat.le_refl _) _)
  go_loopw [0] (fun v wr => ∃ (pos fuel : Nat) (ys : List Int), LayB base w (zs ++ [34] ++ ys) v wr ∧ wr.heap[w1.heap.size]? = some (.stringIter s pos) ∧ ys ++ quoF s fuel pos = quoF s s.size 0 ∧ s.size ≤ pos + fuel) (fun _ wr => s.size - wr.iterPos w1.heap.size)
  case atStart => exact ⟨0, s.size, [], HI.out.1, HI.out.2, rfl, by omega⟩
  case round =>
    obtain ⟨pos, fuel, ys, hL, hit, hq, hfu⟩ := hrel
    clear HI HL1
    have hyl : ys.length ≤ 384 := by
      have h1 := congrArg List.length hq
      have h2 := quoF_len s s.size 0
      rw [List.length_append] at h1
      omega
    have hswr := hL.bel.size
    have hkl : w1.heap.size < wr.heap.size := (Array.getElem?_eq_some_iff.1 hit).1
    by_cases hp : pos < s.size
    · have hnx : ∀ ty, (Instr.next (.pointer (some ⟨w1.heap.size, 0, none⟩)) true ty).run Tryz.prog wr = _ := fun ty => Go.Lib.run_next_any_at wr w1.heap.size s pos ty hit hp
      obtain ⟨hwd1, hwd2, hwd3⟩ := dec_width s pos
      have hwd3 := hwd3 hp
      have hrl := decode_le s pos
      have hdg := decGo s pos hp
      obtain ⟨f, rfl⟩ : ∃ f, fuel = f + 1 := ⟨fuel - 1, by omega⟩
      rw [quoF_more s hp] at hq
      have HPc : Hid (piece s pos = if (Utf8.decode s pos).1 = 34 ∨ (Utf8.decode s pos).1 = 92 then [92, ((Utf8.decode s pos).1 : Int)]
        else if (Utf8.decode s pos).1 = 10 then [92, 110] else if (Utf8.decode s pos).1 = 9 then [92, 116]
        else if (32 ≤ (Utf8.decode s pos).1 ∧ (Utf8.decode s pos).1 ≤ 126) ∨ (160 ≤ (Utf8.decode s pos).1 ∧ 1 < (Utf8.decode s pos).2) then txtB (Utf8.encode ((Utf8.decode s pos).1 : Int))
        else hexB (((txtB s).drop pos).take (Utf8.decode s pos).2)) := rfl
      have hDc := fun W hW => Tryz.utf8_DecodeRuneInString (s.extract pos s.size) W (HT.out.utf W hW)
      rw [hdg] at hDc
      have HQ := hid hq
      clear hq hdg
      generalize (Utf8.decode s pos).1 = r at *
      generalize (Utf8.decode s pos).2 = wd at *
      have hLi := hL.iter hit (by omega) hb (pos + wd)
      have hit2 := Go.Lib.iterAt_heap wr w1.heap.size s pos (pos + wd) hit
      have hsz2 : (wr.iterAt w1.heap.size s (pos + wd)).heap.size = wr.heap.size := Go.Lib.iterAt_size _ _ _ _
      have HM : Hid (World.iterPos wr w1.heap.size = pos) := by unfold Hid; simp only [World.iterPos, hit]
      clear hL hit
      have HD := hid (hDc _ hLi.bel)
      generalize hWi : wr.iterAt w1.heap.size s (pos + wd) = wi at *
      go_wp2_with (go_at_call 96; refine HD.out.mono ?_)
      rintro e w2 ⟨rfl, hb2⟩
      have hL2 := hLi.later (by omega) hb2
      have hit3 := iter_kept (KeepN.below hb2) hit2
      have hs2 := hb2.size
      clear HD hDc hLi hit2 hWi hnx hb2
      obtain ⟨L, hLe⟩ : ∃ L, L = zs ++ [34] ++ ys := ⟨_, rfl⟩
      rw [← hLe] at hL2
      have hLl : L.length ≤ 80400 := by rw [hLe]; simp; omega
      have HLe := hid hLe
      have HL := hid hL2
      have HIt := hid hit3
      have hrow2 : w2.ownsRow base 5 1 u0 L.length (L.map (Value.int .u8)) := hL2.own
      clear hL2 hLe hit3
      by_cases hA : r = 34 ∨ r = 92
      · rcases hA with rfl | rfl
        · have HP : Hid (piece s pos = [92, 34]) := by unfold Hid; rw [HPc.out]; rfl
          go_wp2_with (at_builtin; refine wpList_app rfl (.tmp 40) (.tmp 43) 25 5 i0 _ 1 1 Kd rfl base u0 L.length _ rfl (hrow2.alloc _) ⟨w2.heap.size, 0, none⟩ 2 2 [.int .u8 92, .int .u8 34] rfl rfl (newsB2 _ _ _ _) one8s (by omega) (by omega) (by simp; omega) ?_)
          intro v3 w3 ho3 hg3 hn3
          have hF := HL.out.many (ys := [92, 34]) (by omega) ho3 hg3
          have HR := hid (quo_rel HLe.out HP.out hF (iter_kept ((KeepN.below ((Below.refl _ _).alloc (Nat.le_refl _) _)).trans (KeepN.grown (HL.out.own.below ((Below.refl _ _).alloc (Nat.le_refl _) _)) hg3)) HIt.out) HQ.out hfu hwd1 hp HM.out)
          clear ho3 hg3 hn3 hrow2 hF
          go_wp2
          go_roundw
          case rel => exact HR.out.1
          case measure => exact HR.out.2
        · have HP : Hid (piece s pos = [92, 92]) := by unfold Hid; rw [HPc.out]; rfl
          go_wp2_with (at_builtin; refine wpList_app rfl (.tmp 40) (.tmp 43) 25 5 i0 _ 1 1 Kd rfl base u0 L.length _ rfl (hrow2.alloc _) ⟨w2.heap.size, 0, none⟩ 2 2 [.int .u8 92, .int .u8 92] rfl rfl (newsB2 _ _ _ _) one8s (by omega) (by omega) (by simp; omega) ?_)
          intro v3 w3 ho3 hg3 hn3
          have hF := HL.out.many (ys := [92, 92]) (by omega) ho3 hg3
          have HR := hid (quo_rel HLe.out HP.out hF (iter_kept ((KeepN.below ((Below.refl _ _).alloc (Nat.le_refl _) _)).trans (KeepN.grown (HL.out.own.below ((Below.refl _ _).alloc (Nat.le_refl _) _)) hg3)) HIt.out) HQ.out hfu hwd1 hp HM.out)
          clear ho3 hg3 hn3 hrow2 hF
          go_wp2
          go_roundw
          case rel => exact HR.out.1
          case measure => exact HR.out.2
      · have hA1 : ¬ (r : Int) = 34 := by omega
        have hA2 : ¬ (r : Int) = 92 := by omega
        by_cases hB : r = 10
        · subst hB
          have HP : Hid (piece s pos = txtB ⟨#[92, 110]⟩) := by unfold Hid; rw [HPc.out]; rfl
          have hz2 : (⟨#[92, 110]⟩ : ByteArray).size = 2 := rfl
          go_wp2_with (at_builtin; go_loud (refine Go.Lib.wpList_append_own_string _ rfl (.tmp 48) (.const (.string ⟨#[92, 110]⟩)) 25 9 rfl base 5 i0 Kd.ht Tryz.underlying9 Kd.hi Kd.hz Kd.hsize Kd.hby u0 L.length _ rfl hrow2 ⟨#[92, 110]⟩ rfl (by unfold maxLen; omega) (by omega) (by omega) ?_))
          intro v3 w3 ho3 hg3 _
          have hF := HL.out.text (by omega) ho3 hg3
          have HR := hid (quo_rel HLe.out HP.out hF (iter_kept (KeepN.grown HL.out.own hg3) HIt.out) HQ.out hfu hwd1 hp HM.out)
          clear ho3 hg3 hrow2 hF
          go_wp2
          go_roundw
          case rel => exact HR.out.1
          case measure => exact HR.out.2
        · have hB' : ¬ (r : Int) = 10 := by omega
          by_cases hC : r = 9
          · subst hC
            have HP : Hid (piece s pos = txtB ⟨#[92, 116]⟩) := by unfold Hid; rw [HPc.out]; rfl
            have hz2 : (⟨#[92, 116]⟩ : ByteArray).size = 2 := rfl
            go_wp2_with (at_builtin; go_loud (refine Go.Lib.wpList_append_own_string _ rfl (.tmp 53) (.const (.string ⟨#[92, 116]⟩)) 25 9 rfl base 5 i0 Kd.ht Tryz.underlying9 Kd.hi Kd.hz Kd.hsize Kd.hby u0 L.length _ rfl hrow2 ⟨#[92, 116]⟩ rfl (by unfold maxLen; omega) (by omega) (by omega) ?_))
            intro v3 w3 ho3 hg3 _
            have hF := HL.out.text (by omega) ho3 hg3
            have HR := hid (quo_rel HLe.out HP.out hF (iter_kept (KeepN.grown HL.out.own hg3) HIt.out) HQ.out hfu hwd1 hp HM.out)
            clear ho3 hg3 hrow2 hF
            go_wp2
            go_roundw
            case rel => exact HR.out.1
            case measure => exact HR.out.2
          · have hC' : ¬ (r : Int) = 9 := by omega
            have hn1 : ((r : Int) == 34) = false := by rw [beq_eq_false_iff_ne]; omega
            have hn2 : ((r : Int) == 92) = false := by rw [beq_eq_false_iff_ne]; omega
            have hn3 : ((r : Int) == 10) = false := by rw [beq_eq_false_iff_ne]; omega
            have hn4 : ((r : Int) == 9) = false := by rw [beq_eq_false_iff_ne]; omega
            by_cases hD1 : 32 ≤ r ∧ r ≤ 126
            · have hD2 : (32 : Int) ≤ (r : Int) := by omega
              have hD3 : (r : Int) ≤ 126 := by omega
              have HP : Hid (piece s pos = txtB (Utf8.encode (r : Int))) := by unfold Hid; rw [HPc.out, if_neg hA, if_neg hB, if_neg hC, if_pos (Or.inl hD1)]
              clear hA hD1 HPc
              go_wp2_with (at_builtin; go_loud (refine Go.Lib.wpList_append_own_string _ rfl (.tmp 68) (.tmp 70) 25 9 rfl base 5 i0 Kd.ht Tryz.underlying9 Kd.hi Kd.hz Kd.hsize Kd.hby u0 L.length _ rfl hrow2 (Utf8.encode (r : Int)) rfl (by have h := enc_size (r : Int); unfold maxLen; omega) (by have h := enc_size (r : Int); omega) (by omega) ?_))
              intro v3 w3 ho3 hg3 _
              have hF := HL.out.text (by omega) ho3 hg3
              have HR := hid (quo_rel HLe.out HP.out hF (iter_kept (KeepN.grown HL.out.own hg3) HIt.out) HQ.out hfu hwd1 hp HM.out)
              clear ho3 hg3 hrow2 hF
              go_wp2
              go_roundw
              case rel => exact HR.out.1
              case measure => exact HR.out.2
            · by_cases hE : 160 ≤ r ∧ 1 < wd
              · have hD2 : (32 : Int) ≤ (r : Int) := by omega
                have hD3 : ¬ (r : Int) ≤ 126 := by omega
                have hD4 : (160 : Int) ≤ (r : Int) := by omega
                have hD5 : (1 : Int) < (wd : Int) := by omega
                have HP : Hid (piece s pos = txtB (Utf8.encode (r : Int))) := by unfold Hid; rw [HPc.out, if_neg hA, if_neg hB, if_neg hC, if_pos (Or.inr hE)]
                clear hA hD1 hE HPc
                go_wp2_with (at_builtin; go_loud (refine Go.Lib.wpList_append_own_string _ rfl (.tmp 68) (.tmp 70) 25 9 rfl base 5 i0 Kd.ht Tryz.underlying9 Kd.hi Kd.hz Kd.hsize Kd.hby u0 L.length _ rfl hrow2 (Utf8.encode (r : Int)) rfl (by have h := enc_size (r : Int); unfold maxLen; omega) (by have h := enc_size (r : Int); omega) (by omega) ?_))
                intro v3 w3 ho3 hg3 _
                have hF := HL.out.text (by omega) ho3 hg3
                have HR := hid (quo_rel HLe.out HP.out hF (iter_kept (KeepN.grown HL.out.own hg3) HIt.out) HQ.out hfu hwd1 hp HM.out)
                clear ho3 hg3 hrow2 hF
                go_wp2
                go_roundw
                case rel => exact HR.out.1
                case measure => exact HR.out.2
              · have HP : Hid (piece s pos = hexB (txtB (s.extract pos (pos + wd)))) := by unfold Hid; rw [HPc.out, if_neg hA, if_neg hB, if_neg hC, if_neg (fun h => h.elim hD1 hE), txt_cut, Nat.add_sub_cancel_left]
                have hxs : (s.extract pos (pos + wd)).size ≤ 4 := by simp only [ByteArray.size_extract]; omega
                have HX := hid (appendHex_any (s.extract pos (pos + wd)) hxs base w2 u0 L HL.out.own (by omega) (by omega))
                have hpw : (pos : Int) + (wd : Int) ≤ (s.size : Int) := by omega
                have hpw2 : (pos : Int) ≤ (pos : Int) + (wd : Int) := by omega
                have hcl : ∀ (v3 : Value) (w3 : World), LayB base w2 (L ++ hexB (txtB (s.extract pos (pos + wd)))) v3 w3 → (∃ (pos fuel : Nat) (ys : List Int), LayB base w (zs ++ [34] ++ ys) v3 w3 ∧ w3.heap[w1.heap.size]? = some (.stringIter s pos) ∧ ys ++ quoF s fuel pos = quoF s s.size 0 ∧ s.size ≤ pos + fuel) ∧ s.size - World.iterPos w3 w1.heap.size < s.size - World.iterPos wr w1.heap.size :=
                  fun v3 w3 h3 => quo_rel HLe.out HP.out (h3.lift HL.out.bel HL.out.keep) (iter_kept h3.keep HIt.out) HQ.out hfu hwd1 hp HM.out
                have HCl := hid hcl
                have hrc : r < 32 ∨ (127 ≤ r ∧ r < 160) ∨ (160 ≤ r ∧ wd = 1) := by omega
                clear hcl hA hD1 hE HPc
                rcases hrc with hr1 | hr1 | hr1
                · have hD2 : ¬ (32 : Int) ≤ (r : Int) := by omega
                  have hD4 : ¬ (160 : Int) ≤ (r : Int) := by omega
                  go_wp2_with (go_at_call 97; refine HX.out.mono ?_)
                  intro e w3 hP3
                  obtain ⟨v3, rfl, h3⟩ := hP3
                  have HR := hid (HCl.out v3 w3 h3)
                  clear h3 HX HCl
                  go_wp2
                  go_roundw
                  case rel => exact HR.out.1
                  case measure => exact HR.out.2
                · have hD2 : (32 : Int) ≤ (r : Int) := by omega
                  have hD3 : ¬ (r : Int) ≤ 126 := by omega
                  have hD4 : ¬ (160 : Int) ≤ (r : Int) := by omega
                  go_wp2_with (go_at_call 97; refine HX.out.mono ?_)
                  intro e w3 hP3
                  obtain ⟨v3, rfl, h3⟩ := hP3
                  have HR := hid (HCl.out v3 w3 h3)
                  clear h3 HX HCl
                  go_wp2
                  go_roundw
                  case rel => exact HR.out.1
                  case measure => exact HR.out.2
                · have hD2 : (32 : Int) ≤ (r : Int) := by omega
                  have hD3 : ¬ (r : Int) ≤ 126 := by omega
                  have hD4 : (160 : Int) ≤ (r : Int) := by omega
                  have hD5 : ¬ (1 : Int) < (wd : Int) := by omega
                  clear hr1
                  go_wp2_with (go_at_call 97; refine HX.out.mono ?_)
                  intro e w3 hP3
                  obtain ⟨v3, rfl, h3⟩ := hP3
                  have HR := hid (HCl.out v3 w3 h3)
                  clear h3 HX HCl
                  go_wp2
                  go_roundw
                  case rel => exact HR.out.1
                  case measure => exact HR.out.2
    · have hnx : ∀ ty, (Instr.next (.pointer (some ⟨w1.heap.size, 0, none⟩)) true ty).run Tryz.prog wr = _ := fun ty => Go.Lib.run_next_end_at wr w1.heap.size s pos ty hit hp
      rw [quoF_end s hp, List.append_nil] at hq
      have HQ := hid hq
      obtain ⟨L, hLe⟩ : ∃ L, L = zs ++ [34] ++ ys := ⟨_, rfl⟩
      rw [← hLe] at hL
      have hLl : L.length ≤ 80400 := by rw [hLe]; simp; omega
      have HLe := hid hLe
      have HL := hid hL
      have hrow2 : wr.ownsRow base 5 1 u0 L.length (L.map (Value.int .u8)) := hL.own
      clear hL hLe hq
      go_wp2_with (at_builtin; refine wpList_app rfl (.tmp 72) (.tmp 73) 25 5 i0 _ 1 1 Kd rfl base u0 L.length _ rfl (hrow2.alloc _) ⟨wr.heap.size, 0, none⟩ 1 1 [.int .u8 34] rfl rfl (cell_one_new _ _ _) (one8 _) (by omega) (by omega) (by simp; omega) ?_)
      intro v3 w3 ho3 hg3 hn3
      have HF := hid (HL.out.one (by omega) ho3 hg3)
      clear ho3 hg3 hn3 hrow2
      go_wp2
      go_ret
      refine ⟨_, rfl, ?_⟩
      have h := HF.out
      rw [HLe.out, HQ.out] at h
      rw [quoB]
      simpa using h
end Go.Proofs.YtdmhemofhmfkoabGreatDoor
