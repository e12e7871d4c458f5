import Derived.Test.YtdmhemofhmfkoabGreatDoorRTxO
import Derived.Test.YtdmhemofhmfkoabGreatDoorRTxJp
import Derived.Test.YtdmhemofhmfkoabGreatDoorRTxJn
import Derived.Test.YtdmhemofhmfkoabGreatDoorRTxI
namespace Go.Proofs.YtdmhemofhmfkoabGreatDoor
open Go.RowKit
set_option maxRecDepth 8000
theorem refNumber_any (w0 : World) (rb : Nat) (s : ByteArray) (a : Nat) (L : List PT) (O : List Nat) (w : World) (h : RR w0 rb w s a L O 0) (hL : L.length < 12) (hs : s.size ≤ 140737488355328) (hc : pk s a = 45 ∨ (48 ≤ pk s a ∧ pk s a ≤ 57)) :
    Calls Tryz.prog 94 #[.pointer (some ⟨rb, 0, none⟩)] w fun x w' => LeafPost w0 rb s L O (intS s a) x w' := by
  rcases hc with hc | hc
  · by_cases h1 : 49 ≤ pk s (a + 1) ∧ pk s (a + 1) ≤ 57
    · exact refNumber_neg w0 rb s a L O w h hL hs hc h1
    · exact refNumber_sign w0 rb s a L O w h hs hc h1
  · by_cases h0 : pk s a = 48
    · exact refNumber_0 w0 rb s a L O w h hL hs h0
    · exact refNumber_pos w0 rb s a L O w h hL hs ⟨by omega, hc.2⟩
theorem leaf_ok {s : ByteArray} {a a' : Nat} {v : VT} (h : leafS s a = .ok (v, a')) : Whole v ∧ (flatP v).length = 1 := by
  unfold leafS at h
  split at h
  · unfold noneS at h
    cases hw : wordS s [110, 111, 110, 101] a with
    | error e => rw [hw] at h; cases h
    | ok x => rw [hw] at h; cases h; exact ⟨leaf_whole _ _ _, rfl⟩
  split at h
  · unfold txtS at h
    cases hw : quoS s (s.size + 1) (a + 1) [] with
    | error e => rw [hw] at h; cases h
    | ok x =>
      obtain ⟨zs, b⟩ := x
      rw [hw, txtOf] at h
      split at h
      · cases h
      · cases h; exact ⟨leaf_whole _ _ _, rfl⟩
  · unfold intS at h
    split at h
    · cases h; exact ⟨leaf_whole _ _ _, rfl⟩
    split at h
    · cases hp : Lib.parseIntB 64 (cutL s a (dgE s (sgS s a))) with
      | ok v => rw [hp] at h; cases h; exact ⟨leaf_whole _ _ _, rfl⟩
      | range => rw [hp] at h; cases h
      | «syntax» => rw [hp] at h; cases h
    · cases h
theorem leaf_err {s : ByteArray} {a p e : Nat} (ha : a < s.size) (h : leafS s a = .error (p, e)) : e ≠ 0 := by
  have key : Read s 0 (withQ 1 (leafS s a)) 0 := by
    unfold leafS
    split
    · exact none_read (by omega) (by omega)
    split
    · exact txt_read ha (by omega)
    · exact int_read (by omega) (by omega)
  have := (key.err p e (by rw [h]; rfl)).2
  rcases this with h | h
  · simp [Known] at h; omega
  · omega
def BegPost (w0 : World) (rb : Nat) (s : ByteArray) (fr : List (List VT)) (a q : Nat) (x : Ending) (w' : World) : Prop :=
  x = .returned (.tuple #[]) ∧
  ((∃ p e L O, openS s fr a q = .error (p, e) ∧ e ≠ 0 ∧ RR w0 rb w' s p L O e)
   ∨ (∃ v a', Whole v ∧ openS s fr a q = contS s fr v a' (q + 1) ∧ (flatP v).length = 1 ∧ RR w0 rb w' s a' (frP fr ++ flatP v) (frO fr) 0)
   ∨ (pk s a = 91 ∧ fr.length < 3 ∧ q < 12 ∧ RR w0 rb w' s (a + 1) (frP fr ++ [hdr 0]) ((frP fr).length :: frO fr) 0))
theorem BegPost.bad {w0 : World} {rb : Nat} {s : ByteArray} {fr : List (List VT)} {a q p e : Nat} {w' : World} {L : List PT} {O : List Nat} (h : openS s fr a q = .error (p, e)) (he : e ≠ 0) (hr : RR w0 rb w' s p L O e) : BegPost w0 rb s fr a q (.returned (.tuple #[])) w' :=
  ⟨rfl, .inl ⟨p, e, L, O, h, he, hr⟩⟩
theorem BegPost.leaf {w0 : World} {rb : Nat} {s : ByteArray} {fr : List (List VT)} {a q : Nat} {x : Ending} {w' : World} (ha : a < s.size) (hb : begB (pk s a)) (hq : q < 12) (h91 : pk s a ≠ 91) {r : Except (Nat × Nat) (VT × Nat)} (hr : leafS s a = r) (h : LeafPost w0 rb s (frP fr) (frO fr) r x w') : BegPost w0 rb s fr a q x w' := by
  obtain ⟨h0, h1, h2⟩ := h
  have ho := open_leaf (fr := fr) (q := q) hb hq h91
  refine ⟨h0, ?_⟩
  cases r with
  | error pe =>
    obtain ⟨p, e⟩ := pe
    rw [hr] at ho
    exact .inl ⟨p, e, _, _, ho, leaf_err ha hr, h1 p e rfl⟩
  | ok va =>
    obtain ⟨v, a'⟩ := va
    rw [hr] at ho
    exact .inr (.inl ⟨v, a', (leaf_ok hr).1, ho, (leaf_ok hr).2, h2 v a' rfl⟩)
set_option maxHeartbeats 8000000 in
theorem refBegin_any (w0 : World) (rb : Nat) (s : ByteArray) (fr : List (List VT)) (a q : Nat) (w : World) (hf : FrOk fr) (hq : (frP fr).length = q) (h : RR w0 rb w s a (frP fr) (frO fr) 0) (hs : s.size ≤ 140737488355328) :
    Calls Tryz.prog 54 #[.pointer (some ⟨rb, 0, none⟩)] w fun x w' => BegPost w0 rb s fr a q x w' := by
  have hs' : s.size ≤ 140737488355328 := by omega
  obtain ⟨v5, v6, h⟩ := h
  have hd3 := hf.dep
  have hq12 : q ≤ 12 := by rw [← hq]; exact h.len
  have ha := h.at_
  have HM := hid h
  obtain ⟨O, hO⟩ : ∃ O, frO fr = O := ⟨_, rfl⟩
  obtain ⟨L, hLe⟩ : ∃ L, frP fr = L := ⟨_, rfl⟩
  have hOl : O.length = fr.length := by rw [← hO]; exact frO_len fr
  have HOE := hid hO
  have HLE := hid hLe
  rw [hO, hLe] at HM h
  rw [hLe] at hq
  subst hq
  rw [hOl.symm] at hd3
  have HOL := hid hOl
  clear hOl
  have HK := hid (fun n => (HM.out.kept (below_dN (Below.refl w.heap.size w) n)))
  have HFa := hid (fun e2 a2 n (ha2 : a2 ≤ s.size) => refFault_any w0 rb s a 0 v5 v6 L O (w.drewN n) (HK.out n) e2 a2 ha2)
  obtain ⟨p5, c5, rfl⟩ := ownsRow_slice h.own
  obtain ⟨p6, c6, rfl⟩ := ownsRow_slice h.stk
  have x0 := h.box.cell 0
  have x1 := h.box.cell 1
  have x2 := h.box.cell 2
  have x3 := h.box.cell 3
  simp at x0 x1 x2 x3
  clear h
  by_cases hlt : a < s.size
  · have hg := pk_get hlt
    have hk8 := pk_lt s a
    have hn1 : (a : Int) < (s.size : Int) := by omega
    have hn2 : ¬ (s.size : Int) ≤ (a : Int) := by omega
    have hn4 : ¬ s.size ≤ a := by omega
    obtain ⟨z, hz⟩ : ∃ z, pk s a = z := ⟨_, rfl⟩
    have Hz := hid hz
    rw [hz] at hg hk8
    clear hz
    by_cases hbeg : begB z
    · by_cases hfull : L.length = 12
      · have hfull' : (L.length : Int) = 12 := by omega
        have HE : Hid (openS s fr a L.length = .error (a, 22)) := open_many (by rw [Hz.out]; exact hbeg) hfull
        rcases hbeg with rfl | rfl | ⟨hb1, hb2⟩ | rfl | rfl
        · skip
          go_enter Tryz.func54, Tryz.ntmps54
          go_wp2_with fail
          go_big_quiet (fail)
          revert nq
          intro n1
          go_wp2_with fail
          go_big_quiet (fail)
          go_wp2_with fail
          refine (HFa.out 22 a _ ha).mono ?_
          rintro e w9 ⟨rfl, hR1⟩
          have HR := hid hR1
          clear hR1
          go_wp2
          exact bodyPost_end (results_none rfl _ _ _) rfl (BegPost.bad HE.out (by omega) ⟨_, _, HR.out⟩)
        · skip
          go_enter Tryz.func54, Tryz.ntmps54
          go_wp2_with fail
          go_big_quiet (fail)
          revert nq
          intro n1
          go_wp2_with fail
          go_big_quiet (fail)
          go_wp2_with fail
          refine (HFa.out 22 a _ ha).mono ?_
          rintro e w9 ⟨rfl, hR1⟩
          have HR := hid hR1
          clear hR1
          go_wp2
          exact bodyPost_end (results_none rfl _ _ _) rfl (BegPost.bad HE.out (by omega) ⟨_, _, HR.out⟩)
        · skip
          have hz1 : (48 : Int) ≤ (z : Int) := by omega
          have hz2 : (z : Int) ≤ 57 := by omega
          have hz3 : ¬ (z : Int) = 110 := by omega
          have hz4 : ¬ (z : Int) = 34 := by omega
          have hz5 : ¬ (z : Int) = 91 := by omega
          have hz6 : ¬ (z : Int) = 45 := by omega
          go_enter Tryz.func54, Tryz.ntmps54
          go_wp2_with fail
          go_big_quiet (fail)
          revert nq
          intro n1
          go_wp2_with fail
          go_big_quiet (fail)
          go_wp2_with fail
          refine (HFa.out 22 a _ ha).mono ?_
          rintro e w9 ⟨rfl, hR1⟩
          have HR := hid hR1
          clear hR1
          go_wp2
          exact bodyPost_end (results_none rfl _ _ _) rfl (BegPost.bad HE.out (by omega) ⟨_, _, HR.out⟩)
        · skip
          go_enter Tryz.func54, Tryz.ntmps54
          go_wp2_with fail
          go_big_quiet (fail)
          revert nq
          intro n1
          go_wp2_with fail
          go_big_quiet (fail)
          go_wp2_with fail
          refine (HFa.out 22 a _ ha).mono ?_
          rintro e w9 ⟨rfl, hR1⟩
          have HR := hid hR1
          clear hR1
          go_wp2
          exact bodyPost_end (results_none rfl _ _ _) rfl (BegPost.bad HE.out (by omega) ⟨_, _, HR.out⟩)
        · skip
          go_enter Tryz.func54, Tryz.ntmps54
          go_wp2_with fail
          go_big_quiet (fail)
          revert nq
          intro n1
          go_wp2_with fail
          go_big_quiet (fail)
          go_wp2_with fail
          refine (HFa.out 22 a _ ha).mono ?_
          rintro e w9 ⟨rfl, hR1⟩
          have HR := hid hR1
          clear hR1
          go_wp2
          exact bodyPost_end (results_none rfl _ _ _) rfl (BegPost.bad HE.out (by omega) ⟨_, _, HR.out⟩)
      · have hfull' : ¬ (L.length : Int) = 12 := by omega
        have hL12 : L.length < 12 := by omega
        have hq11 : L.length < 12 := by omega
        have HLf : Hid (pk s a ≠ 91 → ∀ (r : Except (Nat × Nat) (VT × Nat)) x w', leafS s a = r → LeafPost w0 rb s L O r x w' → BegPost w0 rb s fr a L.length x w') := by
          intro h91 r x w' hr hl
          rw [← HLE.out, ← HOE.out] at hl
          exact BegPost.leaf hlt (by rw [Hz.out]; exact hbeg) hq11 h91 hr hl
        rcases hbeg with rfl | rfl | ⟨hb1, hb2⟩ | rfl | rfl
        · skip
          have HC := hid (fun n => refWord_any w0 rb s a L O (w.drewN n) ⟨_, _, HK.out n⟩ hL12 hs')
          have HEq : Hid (leafS s a = noneS s a) := by unfold Hid leafS; rw [if_pos Hz.out]
          have HP := hid (HLf.out (by rw [Hz.out]; omega) _ · · HEq.out)
          clear HLf HFa
          go_enter Tryz.func54, Tryz.ntmps54
          go_wp2_with fail
          go_big_quiet (fail)
          revert nq
          intro n1
          go_wp2_with fail
          go_big_quiet (fail)
          go_wp2_with fail
          refine (HC.out _).mono ?_
          intro e w9 hR1
          obtain ⟨rfl, hR2⟩ := id hR1
          have HR := hid (HP.out _ _ hR1)
          clear hR1 hR2
          go_wp2
          exact bodyPost_end (results_none rfl _ _ _) rfl HR.out
        · skip
          have HC := hid (fun n => refNumber_any w0 rb s a L O (w.drewN n) ⟨_, _, HK.out n⟩ hL12 hs' (by rw [Hz.out]; omega))
          have HEq : Hid (leafS s a = intS s a) := by unfold Hid leafS; rw [if_neg (by rw [Hz.out]; omega), if_neg (by rw [Hz.out]; omega)]
          have HP := hid (HLf.out (by rw [Hz.out]; omega) _ · · HEq.out)
          clear HLf HFa
          go_enter Tryz.func54, Tryz.ntmps54
          go_wp2_with fail
          go_big_quiet (fail)
          revert nq
          intro n1
          go_wp2_with fail
          go_big_quiet (fail)
          go_wp2_with fail
          refine (HC.out _).mono ?_
          intro e w9 hR1
          obtain ⟨rfl, hR2⟩ := id hR1
          have HR := hid (HP.out _ _ hR1)
          clear hR1 hR2
          go_wp2
          exact bodyPost_end (results_none rfl _ _ _) rfl HR.out
        · skip
          have hz1 : (48 : Int) ≤ (z : Int) := by omega
          have hz2 : (z : Int) ≤ 57 := by omega
          have hz3 : ¬ (z : Int) = 110 := by omega
          have hz4 : ¬ (z : Int) = 34 := by omega
          have hz5 : ¬ (z : Int) = 91 := by omega
          have hz6 : ¬ (z : Int) = 45 := by omega
          have HC := hid (fun n => refNumber_any w0 rb s a L O (w.drewN n) ⟨_, _, HK.out n⟩ hL12 hs' (by rw [Hz.out]; omega))
          have HEq : Hid (leafS s a = intS s a) := by unfold Hid leafS; rw [if_neg (by rw [Hz.out]; omega), if_neg (by rw [Hz.out]; omega)]
          have HP := hid (HLf.out (by rw [Hz.out]; omega) _ · · HEq.out)
          clear HLf HFa
          go_enter Tryz.func54, Tryz.ntmps54
          go_wp2_with fail
          go_big_quiet (fail)
          revert nq
          intro n1
          go_wp2_with fail
          go_big_quiet (fail)
          go_wp2_with fail
          refine (HC.out _).mono ?_
          intro e w9 hR1
          obtain ⟨rfl, hR2⟩ := id hR1
          have HR := hid (HP.out _ _ hR1)
          clear hR1 hR2
          go_wp2
          exact bodyPost_end (results_none rfl _ _ _) rfl HR.out
        · skip
          have HC := hid (fun n => refQuoted_any w0 rb s a L O (w.drewN n) ⟨_, _, HK.out n⟩ hL12 hs Hz.out)
          have HEq : Hid (leafS s a = txtS s a) := by unfold Hid leafS; rw [if_neg (by rw [Hz.out]; omega), if_pos Hz.out]
          have HP := hid (HLf.out (by rw [Hz.out]; omega) _ · · HEq.out)
          clear HLf HFa
          go_enter Tryz.func54, Tryz.ntmps54
          go_wp2_with fail
          go_big_quiet (fail)
          revert nq
          intro n1
          go_wp2_with fail
          go_big_quiet (fail)
          go_wp2_with fail
          refine (HC.out _).mono ?_
          intro e w9 hR1
          obtain ⟨rfl, hR2⟩ := id hR1
          have HR := hid (HP.out _ _ hR1)
          clear hR1 hR2
          go_wp2
          exact bodyPost_end (results_none rfl _ _ _) rfl HR.out
        · by_cases hdp : O.length = 3
          · have hdp' : (O.length : Int) = 3 := by omega
            have HE : Hid (openS s fr a L.length = .error (a, 23)) := open_deep Hz.out hq11 (by have := HOL.out; omega)
            go_enter Tryz.func54, Tryz.ntmps54
            go_wp2_with fail
            go_big_quiet (fail)
            revert nq
            intro n1
            go_wp2_with fail
            go_big_quiet (fail)
            go_wp2_with fail
            refine (HFa.out 23 a _ ha).mono ?_
            rintro e w9 ⟨rfl, hR1⟩
            have HR := hid hR1
            clear hR1
            go_wp2
            exact bodyPost_end (results_none rfl _ _ _) rfl (BegPost.bad HE.out (by omega) ⟨_, _, HR.out⟩)
          · have hdp' : ¬ (O.length : Int) = 3 := by omega
            clear HFa HLf
            go_enter Tryz.func54, Tryz.ntmps54
            go_wp2_with fail
            go_big_quiet (fail)
            revert nq
            intro n1
            go_wp2_with fail
            go_big_quiet (fail)
            go_wp2_with fail
            obtain ⟨i1, KdI⟩ := kindI
            obtain ⟨W, hW⟩ : ∃ W, w.drewN (n1 + nq) = W := ⟨_, rfl⟩
            have hMW := HK.out (n1 + nq)
            rw [hW] at hMW
            rw [hW]
            obtain ⟨A, hA⟩ : ∃ A, A = Obj.cells #[.int .i64 (L.length : Int)] 3 := ⟨_, rfl⟩
            have HA := hid hA
            have HM6 := hid (hMW.kept ((Below.refl _ _).alloc (Nat.le_refl _) A).drew)
            have hown6 := HM6.out.stk
            have y2 := hMW.box.cell 2
            have y3 := hMW.box.cell 3
            have hrbW := hMW.box.lt
            simp at y2 y3
            have hnew : ∀ j u, [Value.int .i64 (L.length : Int)][j]? = some u → ((W.alloc A).drew).cell? ((⟨W.heap.size, 0, none⟩ : Addr).add j) = some u := by
              intro j u hu
              show (W.alloc A).cell? _ = _
              rw [hA, cell_new, ← hu]
              simp
            have HN := hid hnew
            have hO2 : O.length ≤ 2 := by omega
            clear hMW hnew hA
            go_region_law (refine step_app rfl (.tmp 100) (.tmp 106) 77 3 i1 _ 1 8 KdI rfl (rb + 1) (.slice p6 O.length c6) O.length (stC O) rfl (by rw [← HA.out]; exact hown6) ⟨W.heap.size, 0, none⟩ 1 1 [.int .i64 (L.length : Int)] rfl rfl (by rw [← HA.out]; exact HN.out) (by intro u hu; rw [List.mem_singleton.1 hu]; rfl) (by omega) (by omega) (by simp; omega) ?_
                           rw [← HA.out]
                           intro v8 w8 ho8 hg8 hn8
                           obtain ⟨p7, c7, rfl⟩ := ownsRow_slice ho8
                           have hx3 := HM6.out.box.kept (hg8.block rb HM6.out.box.lt (fun e => by have := (HM6.out.stk.lt _ e.symm).1; omega))
                           have y3b := hx3.cell 3
                           have g3b := hx3.frozen 3
                           simp at y3b)
            all_goals
              have hM7 := HM6.out.push (m := L.length) hO2 ho8 hg8 hn8
              have HAd := hid (refAdd_any w0 rb s a 0 _ _ L _ _ hM7 (hdr 0) ⟨by simp [hdr], by simp [hdr], by simp [hdr], by simp [hdr], Nat.zero_le _, by simp [hdr]⟩ hL12 (a + 1) hlt)
              have y1c := hM7.box.cell 1
              simp at y1c
              clear hM7 hx3 ho8 hg8 hn8 HM6 hown6 HN
              go_wp2_with fail
              refine HAd.out.mono ?_
              rintro e w9 ⟨rfl, hR1⟩
              have HR := hid hR1
              clear hR1 HAd
              go_wp2
              exact bodyPost_end (results_none rfl _ _ _) rfl ⟨rfl, .inr (.inr ⟨Hz.out, by have := HOL.out; omega, hq11, by rw [HLE.out, HOE.out]; exact HR.out⟩)⟩
    · have HE : Hid (openS s fr a L.length = .error (a, 28)) := open_no (by rw [Hz.out]; exact hbeg)
      have k1 : ¬ (z : Int) = 110 := fun h => hbeg (.inl (by omega))
      have k3 : ¬ (z : Int) = 34 := fun h => hbeg (.inr (.inr (.inr (.inl (by omega)))))
      have k4 : ¬ (z : Int) = 91 := fun h => hbeg (.inr (.inr (.inr (.inr (by omega)))))
      have k2 : ¬ (z : Int) = 45 := fun h => hbeg (.inr (.inl (by omega)))
      have k2b : ((z : Int) == 45) = false := by simpa using k2
      have k1c : ((z : Int) != 110) = true := by simpa using k1
      have k3c : ((z : Int) != 34) = true := by simp; omega
      have k4c : ((z : Int) != 91) = true := by simp; omega
      by_cases k5 : z < 48
      · have k6 : ¬ (48 : Int) ≤ (z : Int) := by omega
        go_enter Tryz.func54, Tryz.ntmps54
        go_wp2_with fail
        go_big_quiet (fail)
        revert nq
        intro n1
        go_wp2_with fail
        go_big_quiet (fail)
        go_wp2_with fail
        refine (HFa.out 28 a _ ha).mono ?_
        rintro e w9 ⟨rfl, hR1⟩
        have HR := hid hR1
        clear hR1
        go_wp2
        exact bodyPost_end (results_none rfl _ _ _) rfl (BegPost.bad HE.out (by omega) ⟨_, _, HR.out⟩)
      · have k6 : (48 : Int) ≤ (z : Int) := by omega
        have k7 : ¬ (z : Int) ≤ 57 := fun h => hbeg (.inr (.inr (.inl (by omega))))
        have k8 : decide ((z : Int) ≤ 57) = false := by simp; omega
        have k9 : ¬ z ≤ 57 := by omega
        go_enter Tryz.func54, Tryz.ntmps54
        go_wp2_with fail
        go_big_quiet (fail)
        revert nq
        intro n1
        go_wp2_with fail
        go_big_quiet (fail)
        go_wp2_with fail
        refine (HFa.out 28 a _ ha).mono ?_
        rintro e w9 ⟨rfl, hR1⟩
        have HR := hid hR1
        clear hR1
        go_wp2
        exact bodyPost_end (results_none rfl _ _ _) rfl (BegPost.bad HE.out (by omega) ⟨_, _, HR.out⟩)
  · obtain rfl : a = s.size := by omega
    have h0 : pk s s.size = 0 := by
      rcases Nat.eq_zero_or_pos (pk s s.size) with h | h
      · exact h
      · exact absurd (pk_pos (s := s) (a := s.size) (by omega)) (by omega)
    have HE : Hid (openS s fr s.size L.length = .error (s.size, 28)) := open_no (by rw [h0]; simp [begB])
    clear h0
    go_enter Tryz.func54, Tryz.ntmps54
    go_wp2_with fail
    go_big_quiet (fail)
    go_wp2_with fail
    refine (HFa.out 28 s.size _ (Nat.le_refl _)).mono ?_
    rintro e w9 ⟨rfl, hR1⟩
    have HR := hid hR1
    clear hR1
    go_wp2
    exact bodyPost_end (results_none rfl _ _ _) rfl (BegPost.bad HE.out (by omega) ⟨_, _, HR.out⟩)
end Go.Proofs.YtdmhemofhmfkoabGreatDoor
