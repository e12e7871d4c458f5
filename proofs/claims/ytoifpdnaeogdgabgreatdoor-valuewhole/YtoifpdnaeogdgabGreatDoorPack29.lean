import Derived.Test.YtoifpdnaeogdgabGreatDoorPack3
import Derived.Test.YtoifpdnaeogdgabGreatDoorPack2
import Derived.Test.YtoifpdnaeogdgabGreatDoorPack27
import Derived.Test.YtoifpdnaeogdgabGreatDoorPack9
namespace Go.Proofs.YtoifpdnaeogdgabGreatDoor
open Go.RowKit
set_option maxRecDepth 8000

set_option maxHeartbeats 2000000 in
theorem appendEncoded_any (t : VT) : ∀ (base : Nat) (w : World) (v : Value) (zs : List Int), base ≤ w.heap.size → OwnBy base w v zs → VT.In w (fun b => b < base) t → Val t → zs.length + (encB t).length ≤ 80000 →
    Calls Tryz.prog 37 #[v, t.val] w fun e w' => EPost base w (zs ++ encB t) e w' := by
  obtain ⟨i0, Kd⟩ := kindB
  induction t with
  | nil => intro base w v zs _ _ _ h; exact h.elim
  | mk k i s n p c f ih =>
    intro base w v zs hB hv hin hval hlen
    obtain ⟨⟨hf, hs24, hn6, hi1, hi2⟩, hvi⟩ := hval
    have hk : 0 ≤ k ∧ k ≤ 3 := by
      simp only [fitB, Bool.and_eq_true, Bool.or_eq_true, decide_eq_true_eq] at hf
      exact ⟨hf.1.1.1.1, hf.1.1.1.2⟩
    obtain ⟨hk0, hk3⟩ := hk
    simp only [VT.val, VT.kind_mk, VT.int_mk, VT.text_mk, VT.p_mk, VT.n_mk, VT.c_mk]
    have hzl : zs.length ≤ 80000 := by omega
    have HI := hid hin
    have hkm : k % 256 = k := by omega
    have ha : Below w.heap.size w (w.alloc (.cells #[.int .i64 k, .int .i64 i, .string s, .slice p n c] 24)) := (Below.refl _ _).alloc (Nat.le_refl _) _
    have hv0 : LayB base w zs v (w.alloc (.cells #[.int .i64 k, .int .i64 i, .string s, .slice p n c] 24)) := ⟨hv.below ha, ha.mono hB, KeepN.below ha⟩
    have hbx := Box.new w #[.int .i64 k, .int .i64 i, .string s, .slice p n c] 24
    have HL0 := hid hv0
    have HBx := hid hbx
    have hrow : (w.alloc (.cells #[.int .i64 k, .int .i64 i, .string s, .slice p n c] 24)).ownsRow base 5 1 v zs.length (zs.map (Value.int .u8)) := hv0.own
    clear hin hf hv ha hv0 hbx
    have E : Hid (zs ++ encB (.mk k i s n p c f) = (zs ++ [k]) ++ (if k = 1 then grpB (foldN i) else if k = 2 then (s.size : Int) :: txtB s else if k = 3 then (n : Int) :: (List.range n).flatMap fun j => encB (f j) else [])) := by
      unfold Hid
      rw [encB_eq, List.append_assoc]; rfl
    have HLen : Hid ((zs ++ encB (.mk k i s n p c f)).length ≤ 80000) := by unfold Hid; rw [List.length_append]; exact hlen
    generalize zs ++ encB (.mk k i s n p c f) = RES at *
    clear hlen
    go_enter Tryz.func37, Tryz.ntmps37
    go_wp2_with (at_builtin; refine wpList_app rfl (.tmp 7) (.tmp 11) 25 5 i0 _ 1 1 Kd rfl base v zs.length _ rfl (hrow.alloc _) ⟨w.heap.size + 1, 0, none⟩ 1 1 [.int .u8 k] rfl rfl ?_ (one8 _) (by omega) (by omega) (by simp; omega) ?_)
    · have h := cell_one_new (w.alloc (.cells #[.int .i64 k, .int .i64 i, .string s, .slice p n c] 24)) (.int .u8 k) 5
      rw [show (w.alloc (.cells #[.int .i64 k, .int .i64 i, .string s, .slice p n c] 24)).heap.size = w.heap.size + 1 by simp] at h
      exact h
    · intro v1 w1 ho1 hg1 hn1
      have hL1 := HL0.out.one (by simp; omega) ho1 hg1
      have hB1 : Box w1 w.heap.size #[.int .i64 k, .int .i64 i, .string s, .slice p n c] 24 :=
        (KeepN.grown (HL0.out.own.below ((Below.refl _ _).alloc (Nat.le_refl _) _)) hg1).box (by decide) (HBx.out.below ((Below.refl _ _).alloc (Nat.le_refl _) _))
      have HL1 := hid hL1
      have HB1 := hid hB1
      have x0 := hB1.cell 0
      have x1 := hB1.cell 1
      have x2 := hB1.cell 2
      have x3 := hB1.cell 3
      simp at x0 x1 x2 x3
      have hsw := hL1.bel.size
      have hl1 : (zs ++ [k]).length ≤ 80001 := by simp; omega
      obtain ⟨L, hL⟩ : ∃ L, L = zs ++ [k] := ⟨_, rfl⟩
      rw [← hL] at hL1 HL1 hl1
      have HLe := hid hL
      have hrow1 : w1.ownsRow base 5 1 v1 L.length (L.map (Value.int .u8)) := hL1.own
      clear ho1 hg1 hn1 hL1 hB1 HL0 HBx hrow hL
      rw [← HLe.out] at E
      rcases (by omega : k = 0 ∨ k = 1 ∨ k = 2 ∨ k = 3) with rfl | rfl | rfl | rfl
      · have e : Hid (RES = L) := by unfold Hid; rw [E.out]; simp
        go_wp2
        go_ret
        exact ⟨_, rfl, e.out ▸ HL1.out⟩
      · have e : Hid (RES = L ++ grpB (foldN i)) := by unfold Hid; rw [E.out]; simp
        have HFo := fun W => fold_any i hi1 hi2 W
        have HG := hid (appendGroups_any (foldN i) (foldN_lt hi1 hi2) base w1 v1 L HL1.out.own (by omega) (by omega))
        go_wp2_with fail
        refine (HFo _).mono ?_
        rintro e2 w2 ⟨rfl, hw2⟩
        subst w2
        go_wp2_with fail
        refine HG.out.mono ?_
        intro e3 w3 hP
        obtain ⟨v3, rfl, h3⟩ := hP
        have HF := hid (h3.lift HL1.out.bel HL1.out.keep)
        clear h3 HG
        go_wp2
        go_ret
        exact ⟨_, rfl, e.out ▸ HF.out⟩
      · have e : Hid (RES = (L ++ [(s.size : Int)]) ++ txtB s) := by unfold Hid; rw [E.out]; simp
        have hs' : (s.size : Int) % 256 = (s.size : Int) := by omega
        go_wp2_with (at_builtin; refine wpList_app rfl (.tmp 24) (.tmp 29) 25 5 i0 _ 1 1 Kd rfl base v1 L.length _ rfl (hrow1.alloc _) ⟨w1.heap.size, 0, none⟩ 1 1 [.int .u8 (s.size : Int)] rfl rfl (cell_one_new _ _ _) (one8 _) (by omega) (by omega) (by simp; omega) ?_)
        intro v2 w2 ho2 hg2 hn2
        have hL2 := HL1.out.one (by omega) ho2 hg2
        have hB2 := ((KeepN.below ((Below.refl _ _).alloc (Nat.le_refl _) (.cells #[.int .u8 (s.size : Int)] 5))).trans (KeepN.grown (HL1.out.own.below ((Below.refl _ _).alloc (Nat.le_refl _) _)) hg2)).box (by decide) HB1.out
        have y2 := hB2.cell 2
        simp at y2
        obtain ⟨L2, hL2e⟩ : ∃ L2, L2 = L ++ [(s.size : Int)] := ⟨_, rfl⟩
        rw [← hL2e] at hL2
        have hl2 : L2.length ≤ 80002 := by rw [hL2e]; simp; omega
        have HL2 := hid hL2
        have HLe2 := hid hL2e
        have hrow2 : w2.ownsRow base 5 1 v2 L2.length (L2.map (Value.int .u8)) := hL2.own
        have hs2 := hL2.bel.size
        clear ho2 hg2 hn2 hL2 hB2 hL2e x0 x1 x2 x3 hrow1
        go_wp2_with (at_builtin; go_loud (refine Go.Lib.wpList_append_own_string _ rfl (.tmp 31) (.tmp 33) 25 9 rfl base 5 i0 Kd.ht Tryz.underlying9 Kd.hi Kd.hz Kd.hsize Kd.hby v2 L2.length _ rfl hrow2 s rfl (by unfold maxLen; omega) (by omega) (by omega) ?_))
        intro v3 w3 ho3 hg3 _
        have HF := hid (HL2.out.text (by omega) ho3 hg3)
        clear ho3 hg3 hrow2
        go_wp2
        go_ret
        exact ⟨_, rfl, by rw [e.out, ← HLe2.out]; exact HF.out⟩
      · have e : Hid (RES = (L ++ [(n : Int)]) ++ (List.range n).flatMap fun j => encB (f j)) := by unfold Hid; rw [E.out]; simp
        have hn' : (n : Int) % 256 = (n : Int) := by omega
        go_wp2_with (at_builtin; refine wpList_app rfl (.tmp 37) (.tmp 42) 25 5 i0 _ 1 1 Kd rfl base v1 L.length _ rfl (hrow1.alloc _) ⟨w1.heap.size, 0, none⟩ 1 1 [.int .u8 (n : Int)] rfl rfl (cell_one_new _ _ _) (one8 _) (by omega) (by omega) (by simp; omega) ?_)
        intro v2 w2 ho2 hg2 hn2
        have hL2 := HL1.out.one (by omega) ho2 hg2
        have hB2 := ((KeepN.below ((Below.refl _ _).alloc (Nat.le_refl _) (.cells #[.int .u8 (n : Int)] 5))).trans (KeepN.grown (HL1.out.own.below ((Below.refl _ _).alloc (Nat.le_refl _) _)) hg2)).box (by decide) HB1.out
        have HB2 := hid hB2
        have y3 := hB2.cell 3
        simp at y3
        have HL2 := hid hL2
        clear ho2 hg2 hn2 hL2 hB2 x0 x1 x2 x3 hrow1
        go_wp2_with fail
        go_loopw [0, 47] (fun v x wr => ∃ j : Nat, j ≤ n ∧ x = .int .i64 j ∧ LayB base w ((L ++ [(n : Int)]) ++ (List.range j).flatMap fun j => encB (f j)) v wr) (fun _ x _ => n - (intOf x).toNat)
        case atStart => exact ⟨0, Nat.zero_le _, rfl, by simpa using HL2.out⟩
        case round =>
          obtain ⟨j, hj, rfl, hLj⟩ := hrel
          have hsj := hLj.bel.size
          by_cases hlt : j < n
          · have hlt' : (j : Int) < (n : Int) := by omega
            obtain ⟨bb, o, hp, hSb, hbl, hat⟩ := HI.out.at_ (show 0 < (VT.mk 3 i s n p c f).n from by simp only [VT.n]; omega)
            simp only [VT.p_mk] at hp
            subst hp
            obtain ⟨d0, d1, d2, d3⟩ := (hat j hlt).kept (hLj.bel.block bb hSb)
            simp only [VT.item_mk] at d0 d1 d2 d3
            obtain ⟨M, hM⟩ : ∃ M, M = (L ++ [(n : Int)]) ++ (List.range j).flatMap fun j => encB (f j) := ⟨_, rfl⟩
            rw [← hM] at hLj
            have hM2 : M ++ encB (f j) = (L ++ [(n : Int)]) ++ (List.range (j + 1)).flatMap fun j => encB (f j) := by rw [hM, List.range_succ, List.flatMap_append]; simp
            have hMl : M.length + (encB (f j)).length ≤ 80000 := by
              have h1 := HLen.out
              rw [e.out] at h1
              have h2 : ∀ a b : Nat, a ≤ b → ((List.range a).flatMap fun j => encB (f j)).length ≤ ((List.range b).flatMap fun j => encB (f j)).length := by
                intro a b hab
                induction hab with
                | refl => exact Nat.le_refl _
                | step _ ih => rw [List.range_succ, List.flatMap_append, List.length_append]; omega
              have h3 := h2 (j + 1) n hlt
              have h4 := congrArg List.length hM2
              simp only [List.length_append, List.length_cons, List.length_nil] at h1 h4
              omega
            have ha : Below wr.heap.size wr (wr.alloc (.cells #[.int .i64 (f j).kind, .int .i64 (f j).int, .string (f j).text, .slice (f j).p (f j).n (f j).c] 24)) := (Below.refl _ _).alloc (Nat.le_refl _) _
            have HC := hid (ih j base (wr.alloc (.cells #[.int .i64 (f j).kind, .int .i64 (f j).int, .string (f j).text, .slice (f j).p (f j).n (f j).c] 24)) u0 M (by simp; omega) (hLj.own.below ha) (((HI.out.sub hlt).kept hLj.bel.size fun b hb _ => hLj.bel.block b hb).below ha) (hvi j hlt) hMl)
            unfold VT.val at HC
            have HLj := hid (hLj.bel.trans (ha.mono (by omega)))
            have HKj := hid (hLj.keep.trans (KeepN.below ha))
            have HM2 := hid hM2
            clear hat hLj hM2 hMl hM ha ih
            go_wp2_with fail
            refine HC.out.mono ?_
            intro e3 w3 hP
            obtain ⟨v3, rfl, h3⟩ := hP
            have HF := hid (h3.lift HLj.out HKj.out)
            clear h3 HC d0 d1 d2 d3
            go_wp2
            go_roundw
            case rel => exact ⟨j + 1, by omega, by go_num, HM2.out ▸ HF.out⟩
            case measure => simp [intOf]; omega
          · have hje : j = n := by omega
            have hlt' : ¬ (j : Int) < (n : Int) := by omega
            rw [hje] at hLj
            have HF := hid hLj
            clear hLj ih
            go_wp2
            go_ret
            exact ⟨_, rfl, by rw [e.out]; exact HF.out⟩
end Go.Proofs.YtoifpdnaeogdgabGreatDoor

namespace Go.Proofs.YtoifpdnaeogdgabGreatDoor
open Go.RowKit
set_option maxRecDepth 8000

set_option maxHeartbeats 1000000 in
theorem orNone_any (t : VT) (w : World) (S : Nat → Prop) (hin : VT.In w S t) :
    Calls Tryz.prog 32 #[t.val] w fun e w' => e = .returned (cleanT t).val ∧ Below w.heap.size w w' := by
  have HC : Hid (∀ W, Below w.heap.size w W → Calls Tryz.prog 14 #[t.val] W fun e w' => e = .returned (.int .i64 (chk t 0 0).1) ∧ Below W.heap.size W w') :=
    fun W hW => check_any t W (fun b => b < W.heap.size) ((hin.below hW).mono fun b _ hl => hl) (fun b hb => hb)
  obtain ⟨k, i, s, n, p, c, f, ht⟩ := hin.mk_
  clear hin
  unfold cleanT
  by_cases h : (chk t 0 0).1 = 0
  · rw [if_pos h]
    rw [h] at HC
    simp only [VT.val, ht, VT.kind_mk, VT.int_mk, VT.text_mk, VT.p_mk, VT.n_mk, VT.c_mk] at HC ⊢
    go_enter Tryz.func32, Tryz.ntmps32
    go_wp2_with fail
    refine (HC.out _ ?_).mono ?_
    · exact ((Below.refl _ _).alloc (Nat.le_refl _) _).alloc (by simp) _
    rintro e w1 ⟨rfl, hb1⟩
    have hv1 : Box w1 w.heap.size #[.int .i64 k, .int .i64 i, .string s, .slice p n c] 24 := ((Box.new w _ 24).below ((Below.refl _ _).alloc (Nat.le_refl _) _)).below hb1
    have hv2 : Box w1 (w.heap.size + 1) #[.int .i64 0, .int .i64 0, .string ⟨#[]⟩, .slice none 0 0] 24 := by
      have h := Box.new (w.alloc (.cells #[.int .i64 k, .int .i64 i, .string s, .slice p n c] 24)) #[.int .i64 0, .int .i64 0, .string ⟨#[]⟩, .slice none 0 0] 24
      rw [show (w.alloc (.cells #[.int .i64 k, .int .i64 i, .string s, .slice p n c] 24)).heap.size = w.heap.size + 1 by simp] at h
      exact h.below hb1
    have hbw : Below w.heap.size w w1 := (((Below.refl w.heap.size w).alloc (Nat.le_refl _) _).alloc (by simp) _).trans (hb1.mono (by simp; omega))
    have x0 := hv1.cell 0
    have x1 := hv1.cell 1
    have x2 := hv1.cell 2
    have x3 := hv1.cell 3
    have d0 := hv2.cell 0
    have d1 := hv2.cell 1
    have d2 := hv2.cell 2
    have d3 := hv2.cell 3
    have e0 := hv2.frozen 0
    have e1 := hv2.frozen 1
    have e2 := hv2.frozen 2
    have e3 := hv2.frozen 3
    have z2 := hv2.lt
    simp at x0 x1 x2 x3 d0 d1 d2 d3
    clear hb1 hv1 hv2 HC
    go_wp2
    refine bodyPost_ret (v := .agg #[.int .i64 k, .int .i64 i, .string s, .slice p n c]) (by simp [results, Tryz.results32, go_sem, d0, d1, d2, d3]) rfl ⟨rfl, ?_⟩
    exact (((hbw.setCell (Nat.le_succ _) _).setCell (Nat.le_succ _) _).setCell (Nat.le_succ _) _).setCell (Nat.le_succ _) _
  · rw [if_neg h]
    have h' : ¬ (((chk t 0 0).1 : Int) = 0) := by omega
    generalize (chk t 0 0).1 = r at *
    simp only [VT.val, zeroT, ht, VT.kind_mk, VT.int_mk, VT.text_mk, VT.p_mk, VT.n_mk, VT.c_mk] at HC ⊢
    go_enter Tryz.func32, Tryz.ntmps32
    go_wp2_with fail
    refine (HC.out _ ?_).mono ?_
    · exact ((Below.refl _ _).alloc (Nat.le_refl _) _).alloc (by simp) _
    rintro e w1 ⟨rfl, hb1⟩
    have hv1 : Box w1 w.heap.size #[.int .i64 k, .int .i64 i, .string s, .slice p n c] 24 := ((Box.new w _ 24).below ((Below.refl _ _).alloc (Nat.le_refl _) _)).below hb1
    have hv2 : Box w1 (w.heap.size + 1) #[.int .i64 0, .int .i64 0, .string ⟨#[]⟩, .slice none 0 0] 24 := by
      have h := Box.new (w.alloc (.cells #[.int .i64 k, .int .i64 i, .string s, .slice p n c] 24)) #[.int .i64 0, .int .i64 0, .string ⟨#[]⟩, .slice none 0 0] 24
      rw [show (w.alloc (.cells #[.int .i64 k, .int .i64 i, .string s, .slice p n c] 24)).heap.size = w.heap.size + 1 by simp] at h
      exact h.below hb1
    have hbw : Below w.heap.size w w1 := (((Below.refl w.heap.size w).alloc (Nat.le_refl _) _).alloc (by simp) _).trans (hb1.mono (by simp; omega))
    have x0 := hv1.cell 0
    have x1 := hv1.cell 1
    have x2 := hv1.cell 2
    have x3 := hv1.cell 3
    have d0 := hv2.cell 0
    have d1 := hv2.cell 1
    have d2 := hv2.cell 2
    have d3 := hv2.cell 3
    have e0 := hv2.frozen 0
    have e1 := hv2.frozen 1
    have e2 := hv2.frozen 2
    have e3 := hv2.frozen 3
    have z2 := hv2.lt
    simp at x0 x1 x2 x3 d0 d1 d2 d3
    clear hb1 hv1 hv2 HC
    go_wp2
    refine bodyPost_ret (v := .agg #[.int .i64 0, .int .i64 0, .string ⟨#[]⟩, .slice none 0 0]) (by simp [results, Tryz.results32, go_sem, d0, d1, d2, d3]) rfl ⟨rfl, ?_⟩
    exact (((hbw.setCell (Nat.le_succ _) _).setCell (Nat.le_succ _) _).setCell (Nat.le_succ _) _).setCell (Nat.le_succ _) _
end Go.Proofs.YtoifpdnaeogdgabGreatDoor

namespace Go.Proofs.YtoifpdnaeogdgabGreatDoor
open Go.RowKit
set_option maxRecDepth 8000

theorem clean_enc_len {w : World} {S : Nat → Prop} {t : VT} (h : VT.In w S t) : (encB (cleanT t)).length ≤ 720 := by
  have h1 := enc_len (clean_val h)
  have h2 := clean_len (t := t)
  omega

set_option maxHeartbeats 1000000 in
theorem encode_any (t : VT) (w : World) (S : Nat → Prop) (hin : VT.In w S t) (hS : ∀ b, S b → b < w.heap.size) :
    Calls Tryz.prog 12 #[t.val] w fun e w' => EPost w.heap.size w (encB (cleanT t)) e w' := by
  have HC : Hid (∀ W, Below w.heap.size w W → Calls Tryz.prog 32 #[t.val] W fun e w' => e = .returned (cleanT t).val ∧ Below W.heap.size W w') := fun W hW => orNone_any t W S (hin.below hW)
  have hcl := clean_enc_len hin
  have HA : Hid (∀ W, Below w.heap.size w W → Calls Tryz.prog 37 #[.slice none 0 0, (cleanT t).val] W fun e w' => EPost w.heap.size W ([] ++ encB (cleanT t)) e w') := fun W hW => by
    have h1 : VT.In W (fun b => b < w.heap.size) (cleanT t) := ((cleanT_in hin).mono fun b hb _ => hS b hb).kept hW.size fun b hb _ => hW.block b hb
    exact appendEncoded_any (cleanT t) w.heap.size W (.slice none 0 0) [] hW.size (World.ownsRow_nil _ _ _ _) h1 (clean_val hin) (by simp; omega)
  simp only [List.nil_append] at HA
  unfold VT.val at HC HA ⊢
  generalize encB (cleanT t) = RES at *
  clear hin hS
  go_enter Tryz.func12, Tryz.ntmps12
  go_wp2_with fail
  refine (HC.out _ ?_).mono ?_
  · exact (Below.refl _ _).alloc (Nat.le_refl _) _
  rintro e w1 ⟨rfl, hb1⟩
  have hbw : Below w.heap.size w w1 := ((Below.refl w.heap.size w).alloc (Nat.le_refl _) _).trans (hb1.mono (by simp))
  have hkw : KeepN w w1 := KeepN.below hbw
  have HBw := hid (And.intro hbw hkw)
  clear hb1 hbw hkw
  go_wp2_with fail
  refine (HA.out _ HBw.out.1).mono ?_
  intro e w2 hP
  obtain ⟨v2, rfl, h2⟩ := hP
  have HF := hid (h2.lift HBw.out.1 HBw.out.2)
  clear h2 HA HC
  go_wp2
  go_ret
  exact ⟨_, rfl, HF.out⟩

/-- what the parts of a valid value are -/
theorem part_fit {t : VT} (h : Val t) : ∀ q ∈ flatP t, (0 ≤ q.kind ∧ q.kind ≤ 3) ∧ q.text.size ≤ 24 ∧ q.n ≤ 6 ∧ -9223372036854775808 ≤ q.int ∧ q.int ≤ 9223372036854775807 := by
  induction t with
  | nil => exact h.elim
  | mk k i s n p c f ih =>
    obtain ⟨⟨h1, h2, h3, h4, h5⟩, h6⟩ := h
    intro q hq
    rw [flatP_eq, List.mem_cons] at hq
    rcases hq with rfl | hq
    · simp only [fitB, Bool.and_eq_true, Bool.or_eq_true, decide_eq_true_eq] at h1
      exact ⟨⟨h1.1.1.1.1, h1.1.1.1.2⟩, h2, h3, h4, h5⟩
    · obtain ⟨j, hj, hq⟩ := List.mem_flatMap.1 hq
      exact ih j (h6 j (List.mem_range.1 hj)) q hq
end Go.Proofs.YtoifpdnaeogdgabGreatDoor
