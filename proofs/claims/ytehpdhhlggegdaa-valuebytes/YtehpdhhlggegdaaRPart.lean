import Derived.Test.YtehpdhhlggegdaaDecH
import Derived.Test.YtehpdhhlggegdaaPack20
import Derived.Test.YtehpdhhlggegdaaPack7
import Derived.Test.YtehpdhhlggegdaaDecP
namespace Go.Proofs.Ytehpdhhlggegdaa
open Go.RowKit
set_option maxRecDepth 8000
/-- a part as it is read: what it is, and where it ends -/
def rpS (f : Nat → Int) (n d a : Nat) : Except Nat (PT × Nat) :=
  if 3 < (f a).toNat then .error 28 else if (f a).toNat = 3 ∧ d = 3 then .error 23
  else if (f a).toNat = 0 then .ok (⟨0, 0, ⟨#[]⟩, 0⟩, a + 1)
  else if (f a).toNat = 1 then (match grpS f n 10 (a + 1) 0 0 with | none => .error 28 | some (u, a') => .ok (⟨1, unfoldI u, ⟨#[]⟩, 0⟩, a'))
  else if n ≤ a + 1 then .error 28
  else if (f a).toNat = 2 then (if 24 < (f (a + 1)).toNat then .error 21 else if n < a + 2 + (f (a + 1)).toNat then .error 28 else .ok (⟨2, 0, strOf (bytesAt f (a + 2) (f (a + 1)).toNat), 0⟩, a + 2 + (f (a + 1)).toNat))
  else if 6 < (f (a + 1)).toNat then .error 22
  else .ok (⟨3, 0, ⟨#[]⟩, (f (a + 1)).toNat⟩, a + 2)
def RPPost (w : World) (a : Nat) (r : Except Nat (PT × Nat)) (x : Ending) (w' : World) : Prop :=
  Below w.heap.size w w' ∧ (∀ q a', r = .ok (q, a') → x = .returned (.tuple #[.agg #[.int .i64 q.kind, .int .i64 q.int, .string q.text, .int .i64 q.n], .int .i64 ((a' : Int) - (a : Int)), .int .i64 0])) ∧
    (∀ e : Nat, r = .error e → ∃ (k i : Int) (s : ByteArray) (m z : Int), x = .returned (.tuple #[.agg #[.int .i64 k, .int .i64 i, .string s, .int .i64 m], .int .i64 z, .int .i64 (e : Int)]))
set_option maxHeartbeats 4000000 in
theorem refPart_any (p : Option Addr) (n c a d : Nat) (w : World) (S : Nat → Prop) (f : Nat → Int) (hB : Byts w S p n c f) (hS : ∀ b, S b → b < w.heap.size) (ha : a < n) (hd : d ≤ 3) :
    Calls Try.prog 57 #[.slice p n c, .int .i64 (a : Int), .int .i64 (d : Int)] w fun x w' => RPPost w a (rpS f n d a) x w' := by
  have HY := hid hB
  have hnn := hB.nn
  have ha' : (a : Int) < (n : Int) := by omega
  obtain ⟨hf1, hf2⟩ := hB.fit a ha
  obtain ⟨K, hK⟩ := Int.eq_ofNat_of_zero_le hf1
  obtain ⟨b, o, hp, hSb, hbl, hat⟩ := hB.at_ (by omega)
  subst hp
  have hc := hat a ha
  rw [hK] at hc
  obtain ⟨R, hR⟩ : ∃ R, R = rpS f n d a := ⟨_, rfl⟩
  rw [← hR]
  unfold rpS at hR
  rw [hK] at hR
  simp only [Int.toNat_natCast] at hR
  have HR := hid hR
  have hbn : b ≠ w.heap.size := by omega
  have hbn1 : b ≠ w.heap.size + 1 := by omega
  clear hR hB
  have hK2 : K < 256 := by omega
  by_cases h3 : 3 < K
  · have h3' : (3 : Int) < (K : Int) := by omega
    have hr : R = .error 28 := by have h2 := HR.out; rw [if_pos h3] at h2; exact h2
    have HRe := hid hr
    clear hr HR
    go_enter Try.func57, Try.ntmps57
    go_wp2
    refine bodyPost_ret (v := .tuple #[.agg #[.int .i64 (K), .int .i64 (0), .string ⟨#[]⟩, .int .i64 (0)], .int .i64 (0), .int .i64 28]) (by simp [results, Try.results57, go_sem]) rfl ?_
    exact ⟨((Below.refl _ _).alloc (Nat.le_refl _) _).alloc (by simp) _, fun q a3 h2 => (by rw [HRe.out] at h2; cases h2), fun e2 h2 => (by rw [HRe.out] at h2; cases h2; exact ⟨_, _, _, _, _, rfl⟩)⟩
  · have h3' : ¬ (3 : Int) < (K : Int) := by omega
    have h2 := HR.out
    rw [if_neg h3] at h2
    have HR := hid h2
    clear h2
    rcases (by omega : K = 0 ∨ K = 1 ∨ K = 2 ∨ K = 3) with rfl | rfl | rfl | rfl
    · have hr : R = .ok (⟨0, 0, ⟨#[]⟩, 0⟩, a + 1) := by have h2 := HR.out; simp at h2; exact h2
      have HRe := hid hr
      clear hr HR
      go_enter Try.func57, Try.ntmps57
      go_wp2
      refine bodyPost_ret (v := .tuple #[.agg #[.int .i64 (0), .int .i64 (0), .string ⟨#[]⟩, .int .i64 (0)], .int .i64 (1), .int .i64 0]) (by simp [results, Try.results57, go_sem]) rfl ?_
      refine ⟨((Below.refl _ _).alloc (Nat.le_refl _) _).alloc (by simp) _, fun q a3 h2 => ?_, fun e2 h2 => (by rw [HRe.out] at h2; cases h2)⟩
      rw [HRe.out] at h2
      cases h2
      refine congrArg (fun z => Ending.returned (.tuple #[.agg #[.int .i64 (0), .int .i64 (0), .string ⟨#[]⟩, .int .i64 (0)], .int .i64 z, .int .i64 0])) ?_
      omega
    · have h4 := HR.out
      simp at h4
      have HR1 := hid h4
      have HGr : Hid (∀ W : World, Below w.heap.size w W → Calls Try.prog 79 #[.slice (some ⟨b, o, none⟩) n c, .int .i64 ((a : Int) + 1)] W fun x w' => RGPost W (a + 1) (grpS f n 10 (a + 1) 0 0) x w') := by
        intro W hW
        have h5 := refGroups_any (some ⟨b, o, none⟩) n c (a + 1) W S f (HY.out.kept hW.size fun b2 hb2 _ => hW.block b2 (hS b2 hb2)) (by omega)
        rw [show ((a + 1 : Nat) : Int) = (a : Int) + 1 by omega] at h5
        exact h5
      clear h4 HR
      go_enter Try.func57, Try.ntmps57
      go_wp2_with fail
      refine (HGr.out _ (((Below.refl _ _).alloc (Nat.le_refl _) _).alloc (by simp) _)).mono ?_
      intro x5 w5 hP5
      cases hgr : grpS f n 10 (a + 1) 0 0 with
      | none =>
        rw [hgr] at hP5
        have hr : R = .error 28 := by have h2 := HR1.out; rw [hgr] at h2; exact h2
        have HRe := hid hr
        obtain ⟨rfl, _, h7⟩ := hP5
        obtain rfl := h7 rfl
        clear hr HR1
        go_wp2
        refine bodyPost_ret (v := .tuple #[.agg #[.int .i64 1, .int .i64 0, .string ⟨#[]⟩, .int .i64 0], .int .i64 1, .int .i64 28]) (by simp [results, Try.results57, go_sem]) rfl ?_
        exact ⟨((Below.refl _ _).alloc (Nat.le_refl _) _).alloc (by simp) _, fun q a3 h2 => (by rw [HRe.out] at h2; cases h2), fun e2 h2 => (by rw [HRe.out] at h2; cases h2; exact ⟨_, _, _, _, _, rfl⟩)⟩
      | some ua =>
        obtain ⟨u, a'⟩ := ua
        rw [hgr] at hP5
        have hr : R = .ok (⟨1, unfoldI u, ⟨#[]⟩, 0⟩, a') := by have h2 := HR1.out; rw [hgr] at h2; exact h2
        have HRe := hid hr
        have hgl := (grpS_le _ _ _ _ _ _ _ hgr).1
        obtain ⟨rfl, h7, _⟩ := hP5
        obtain rfl := h7 u a' rfl
        clear hr HR1
        go_wp2
        refine bodyPost_ret (v := .tuple #[.agg #[.int .i64 1, .int .i64 (unfoldI u), .string ⟨#[]⟩, .int .i64 0], .int .i64 ((a' : Int) - ((a : Int) + 1) + 1), .int .i64 0]) (by simp [results, Try.results57, go_sem]) rfl ?_
        refine ⟨((Below.refl _ _).alloc (Nat.le_refl _) _).alloc (by simp) _, fun q a3 h2 => ?_, fun e2 h2 => (by rw [HRe.out] at h2; cases h2)⟩
        rw [HRe.out] at h2
        cases h2
        refine congrArg (fun z => Ending.returned (.tuple #[.agg #[.int .i64 1, .int .i64 (unfoldI u), .string ⟨#[]⟩, .int .i64 0], .int .i64 z, .int .i64 0])) ?_
        omega
    · by_cases hn1 : n ≤ a + 1
      · have hn1' : (n : Int) ≤ (a : Int) + 1 := by omega
        have hr : R = .error 28 := by have h2 := HR.out; simp [hn1] at h2; exact h2
        have HRe := hid hr
        clear hr HR
        go_enter Try.func57, Try.ntmps57
        go_wp2
        refine bodyPost_ret (v := .tuple #[.agg #[.int .i64 (2), .int .i64 0, .string ⟨#[]⟩, .int .i64 (0)], .int .i64 0, .int .i64 28]) (by simp [results, Try.results57, go_sem]) rfl ?_
        exact ⟨((Below.refl _ _).alloc (Nat.le_refl _) _).alloc (by simp) _, fun q a3 h2 => (by rw [HRe.out] at h2; cases h2), fun e2 h2 => (by rw [HRe.out] at h2; cases h2; exact ⟨_, _, _, _, _, rfl⟩)⟩
      · have hn1' : ¬ (n : Int) ≤ (a : Int) + 1 := by omega
        obtain ⟨hg1, hg2⟩ := HY.out.fit (a + 1) (by omega)
        obtain ⟨M, hM⟩ := Int.eq_ofNat_of_zero_le hg1
        have hc1 := hat (a + 1) (by omega)
        rw [hM] at hc1
        have hM2 : M < 256 := by omega
        by_cases hM6 : 24 < M
        · have hM6' : (24 : Int) < (M : Int) := by omega
          have hr : R = .error 21 := by have h2 := HR.out; simp [hn1, hM, hM6] at h2; exact h2
          have HRe := hid hr
          clear hr HR
          go_enter Try.func57, Try.ntmps57
          go_wp2
          refine bodyPost_ret (v := .tuple #[.agg #[.int .i64 (2), .int .i64 0, .string ⟨#[]⟩, .int .i64 (0)], .int .i64 0, .int .i64 21]) (by simp [results, Try.results57, go_sem]) rfl ?_
          exact ⟨((Below.refl _ _).alloc (Nat.le_refl _) _).alloc (by simp) _, fun q a3 h2 => (by rw [HRe.out] at h2; cases h2), fun e2 h2 => (by rw [HRe.out] at h2; cases h2; exact ⟨_, _, _, _, _, rfl⟩)⟩
        · have hM6' : ¬ (24 : Int) < (M : Int) := by omega
          by_cases hn2 : n < a + 2 + M
          · have hn2' : (n : Int) < (a : Int) + 2 + (M : Int) := by omega
            have hr : R = .error 28 := by have h2 := HR.out; simp [hn1, hM, hM6, hn2] at h2; exact h2
            have HRe := hid hr
            clear hr HR
            go_enter Try.func57, Try.ntmps57
            go_wp2
            refine bodyPost_ret (v := .tuple #[.agg #[.int .i64 (2), .int .i64 0, .string ⟨#[]⟩, .int .i64 (0)], .int .i64 0, .int .i64 28]) (by simp [results, Try.results57, go_sem]) rfl ?_
            exact ⟨((Below.refl _ _).alloc (Nat.le_refl _) _).alloc (by simp) _, fun q a3 h2 => (by rw [HRe.out] at h2; cases h2), fun e2 h2 => (by rw [HRe.out] at h2; cases h2; exact ⟨_, _, _, _, _, rfl⟩)⟩
          · have hn2' : ¬ (n : Int) < (a : Int) + 2 + (M : Int) := by omega
            have hr : R = .ok (⟨2, 0, strOf (bytesAt f (a + 2) M), 0⟩, a + 2 + M) := by have h2 := HR.out; simp [hn1, hM, hM6, hn2] at h2; exact h2
            have HRe := hid hr
            clear hr HR
            have hncc := HY.out.nc
            have hW : Below w.heap.size w ((w.alloc (.cells #[.int .i64 0, .int .i64 0, .string ⟨#[]⟩, .int .i64 0] 93)).alloc (.cells #[.int .i64 2, .int .i64 0, .string ⟨#[]⟩, .int .i64 0] 93)) := ((Below.refl _ _).alloc (Nat.le_refl _) _).alloc (by simp) _
            obtain ⟨T, hT⟩ : ∃ T, T = strOf (bytesAt f (a + 2) M) := ⟨_, rfl⟩
            have hl : (bytesAt f (a + 2) M).length = M := by simp [bytesAt]
            by_cases hc0 : c - (a + 2) = 0
            · have hM0 : M = 0 := by omega
              subst hM0
              have hcv : (convert 62 9 (.slice (some ⟨b, o, none⟩) 0 0)).run Try.prog ((w.alloc (.cells #[.int .i64 0, .int .i64 0, .string ⟨#[]⟩, .int .i64 0] 93)).alloc (.cells #[.int .i64 2, .int .i64 0, .string ⟨#[]⟩, .int .i64 0] 93)) = .ok (.string T) ((w.alloc (.cells #[.int .i64 0, .int .i64 0, .string ⟨#[]⟩, .int .i64 0] 93)).alloc (.cells #[.int .i64 2, .int .i64 0, .string ⟨#[]⟩, .int .i64 0] 93)) := by
                rw [hT]; exact conv_at (zs := []) (fun j u hu => by simp at hu)
              rw [← hT] at HRe
              obtain rfl : c = a + 2 := by omega
              clear hT hl hW hM hc0
              go_enter Try.func57, Try.ntmps57
              go_wp2
              refine bodyPost_ret (v := .tuple #[.agg #[.int .i64 2, .int .i64 0, .string T, .int .i64 0], .int .i64 (2), .int .i64 0]) (by simp [results, Try.results57, go_sem]) rfl ?_
              refine ⟨((Below.refl _ _).alloc (Nat.le_refl _) _).alloc (by simp) _, fun q a3 h2 => ?_, fun e2 h2 => (by rw [HRe.out] at h2; cases h2)⟩
              rw [HRe.out] at h2
              cases h2
              refine congrArg (fun z => Ending.returned (.tuple #[.agg #[.int .i64 2, .int .i64 0, .string T, .int .i64 0], .int .i64 z, .int .i64 0])) ?_
              omega
            · have hcv : (convert 62 9 (.slice (some ⟨b, o + (a + 2), none⟩) M (c - (a + 2)))).run Try.prog ((w.alloc (.cells #[.int .i64 0, .int .i64 0, .string ⟨#[]⟩, .int .i64 0] 93)).alloc (.cells #[.int .i64 2, .int .i64 0, .string ⟨#[]⟩, .int .i64 0] 93)) = .ok (.string T) ((w.alloc (.cells #[.int .i64 0, .int .i64 0, .string ⟨#[]⟩, .int .i64 0] 93)).alloc (.cells #[.int .i64 2, .int .i64 0, .string ⟨#[]⟩, .int .i64 0] 93)) := by
                have h5 := conv_at (w := ((w.alloc (.cells #[.int .i64 0, .int .i64 0, .string ⟨#[]⟩, .int .i64 0] 93)).alloc (.cells #[.int .i64 2, .int .i64 0, .string ⟨#[]⟩, .int .i64 0] 93))) (ad := ⟨b, o + (a + 2), none⟩) (c := c - (a + 2)) (zs := bytesAt f (a + 2) M) (fun j u hu => by
                  by_cases hj : j < M
                  · simp only [bytesAt, List.map_map, List.getElem?_map, List.getElem?_range hj, Option.map_some, Function.comp_apply, Option.some.injEq] at hu
                    rw [← hu, Go.WideShapes.add_plain, Nat.add_assoc]
                    exact (World.cell?_of_block (a := ⟨b, o + (a + 2 + j), none⟩) (hW.block b hbl)).trans (hat _ (by omega))
                  · rw [List.getElem?_eq_none (by simp [bytesAt]; omega)] at hu; cases hu)
                rw [hl] at h5
                rw [hT]
                exact h5
              rw [← hT] at HRe
              clear hT hl hW
              go_enter Try.func57, Try.ntmps57
              go_wp2
              refine bodyPost_ret (v := .tuple #[.agg #[.int .i64 2, .int .i64 0, .string T, .int .i64 0], .int .i64 (2 + (M : Int)), .int .i64 0]) (by simp [results, Try.results57, go_sem]) rfl ?_
              refine ⟨((Below.refl _ _).alloc (Nat.le_refl _) _).alloc (by simp) _, fun q a3 h2 => ?_, fun e2 h2 => (by rw [HRe.out] at h2; cases h2)⟩
              rw [HRe.out] at h2
              cases h2
              refine congrArg (fun z => Ending.returned (.tuple #[.agg #[.int .i64 2, .int .i64 0, .string T, .int .i64 0], .int .i64 z, .int .i64 0])) ?_
              omega
    · by_cases hd3 : d = 3
      · subst hd3
        have hr : R = .error 23 := by have h2 := HR.out; simp at h2; exact h2
        have HRe := hid hr
        clear hr HR
        go_enter Try.func57, Try.ntmps57
        go_wp2
        refine bodyPost_ret (v := .tuple #[.agg #[.int .i64 (3), .int .i64 (0), .string ⟨#[]⟩, .int .i64 (0)], .int .i64 (0), .int .i64 23]) (by simp [results, Try.results57, go_sem]) rfl ?_
        exact ⟨((Below.refl _ _).alloc (Nat.le_refl _) _).alloc (by simp) _, fun q a3 h2 => (by rw [HRe.out] at h2; cases h2), fun e2 h2 => (by rw [HRe.out] at h2; cases h2; exact ⟨_, _, _, _, _, rfl⟩)⟩
      · have hd3' : ¬ (d : Int) = 3 := by omega
        by_cases hn1 : n ≤ a + 1
        · have hn1' : (n : Int) ≤ (a : Int) + 1 := by omega
          have hr : R = .error 28 := by have h2 := HR.out; simp [hd3, hn1] at h2; exact h2
          have HRe := hid hr
          clear hr HR
          go_enter Try.func57, Try.ntmps57
          go_wp2
          refine bodyPost_ret (v := .tuple #[.agg #[.int .i64 (3), .int .i64 (0), .string ⟨#[]⟩, .int .i64 (0)], .int .i64 (0), .int .i64 28]) (by simp [results, Try.results57, go_sem]) rfl ?_
          exact ⟨((Below.refl _ _).alloc (Nat.le_refl _) _).alloc (by simp) _, fun q a3 h2 => (by rw [HRe.out] at h2; cases h2), fun e2 h2 => (by rw [HRe.out] at h2; cases h2; exact ⟨_, _, _, _, _, rfl⟩)⟩
        · have hn1' : ¬ (n : Int) ≤ (a : Int) + 1 := by omega
          obtain ⟨hg1, hg2⟩ := HY.out.fit (a + 1) (by omega)
          obtain ⟨M, hM⟩ := Int.eq_ofNat_of_zero_le hg1
          have hc1 := hat (a + 1) (by omega)
          rw [hM] at hc1
          have hM2 : M < 256 := by omega
          by_cases hM6 : 6 < M
          · have hM6' : (6 : Int) < (M : Int) := by omega
            have hr : R = .error 22 := by have h2 := HR.out; simp [hd3, hn1, hM, hM6] at h2; exact h2
            have HRe := hid hr
            clear hr HR
            go_enter Try.func57, Try.ntmps57
            go_wp2
            refine bodyPost_ret (v := .tuple #[.agg #[.int .i64 (3), .int .i64 (0), .string ⟨#[]⟩, .int .i64 (M)], .int .i64 (0), .int .i64 22]) (by simp [results, Try.results57, go_sem]) rfl ?_
            exact ⟨((Below.refl _ _).alloc (Nat.le_refl _) _).alloc (by simp) _, fun q a3 h2 => (by rw [HRe.out] at h2; cases h2), fun e2 h2 => (by rw [HRe.out] at h2; cases h2; exact ⟨_, _, _, _, _, rfl⟩)⟩
          · have hM6' : ¬ (6 : Int) < (M : Int) := by omega
            have hr : R = .ok (⟨3, 0, ⟨#[]⟩, M⟩, a + 2) := by have h2 := HR.out; simp [hd3, hn1, hM, hM6] at h2; exact h2
            have HRe := hid hr
            clear hr HR
            go_enter Try.func57, Try.ntmps57
            go_wp2
            refine bodyPost_ret (v := .tuple #[.agg #[.int .i64 (3), .int .i64 (0), .string ⟨#[]⟩, .int .i64 (M)], .int .i64 (2), .int .i64 0]) (by simp [results, Try.results57, go_sem]) rfl ?_
            refine ⟨((Below.refl _ _).alloc (Nat.le_refl _) _).alloc (by simp) _, fun q a3 h2 => ?_, fun e2 h2 => (by rw [HRe.out] at h2; cases h2)⟩
            rw [HRe.out] at h2
            cases h2
            refine congrArg (fun z => Ending.returned (.tuple #[.agg #[.int .i64 (3), .int .i64 (0), .string ⟨#[]⟩, .int .i64 (M)], .int .i64 z, .int .i64 0])) ?_
            omega
end Go.Proofs.Ytehpdhhlggegdaa
