import Derived.Test.YtbkikbhodgjijaaYI
namespace Go.Proofs.Ytbkikbhodgjijaa
open Go.RowKit
set_option maxRecDepth 8000

/-- events in a row of its own, and nothing else changed -/
def EvQ (xs : List EV) (w : World) (e : Ending) (w' : World) : Prop := ∃ v, e = .returned v ∧ EvRow w.heap.size w' v xs ∧ Below w.heap.size w w'
theorem news2 (w : World) (x y : Int) : ∀ j' u', [Value.int .i64 x, .int .i64 y][j']? = some u' → (w.alloc (.cells #[.int .i64 x, .int .i64 y] 39)).cell? ((⟨w.heap.size, 0, none⟩ : Addr).add j') = some u' := fun j' u' hu => by
  rw [Go.WideShapes.add_plain, (Box.new w #[.int .i64 x, .int .i64 y] 39).cell]
  rw [show 0 + j' = j' by omega]
  simpa using hu
theorem one2 (x y : Int) : ∀ u ∈ [Value.int .i64 x, .int .i64 y], u.oneCell' = true := by
  intro u hu
  simp only [List.mem_cons, List.not_mem_nil, or_false] at hu
  rcases hu with rfl | rfl <;> rfl
set_option maxHeartbeats 8000000 in
theorem sides_any (l : LT TR) (a b T g c : Nat) (m : Nat → Nat) (first : Bool) (w : World) (S : Nat → Prop) (hl : LT.In elTr w S l) (h47 : l.n * 32 ≤ 140737488355328) (hab : a ≤ b) (hb : b ≤ l.n) (_ : T ≤ 12) (hg : g < w.heap.size) (hc : ∀ t, t < T → w.cell? ⟨g, t, none⟩ = some (.int .i64 (m t : Int))) (hm : ∀ t, t < T → m t ≤ l.n)
    (hk : ∀ q, a ≤ q → q < b → (l.item q).kind = 1 → 0 ≤ (l.item q).task ∧ (l.item q).task < (T : Int)) :
    Calls Try.prog 37 #[.slice l.p l.n l.c, .int .i64 (a : Int), .int .i64 (b : Int), .slice (some ⟨g, 0, none⟩) T c, .bool first] w fun e w' => EvQ (evsF l.item (fun q => decide (q < m (l.item q).task.toNat) == first) a (b - a)) w e w' := by
  have hnn := hl.nn
  have H := hid hl
  obtain ⟨i0, Kd⟩ := kindEv
  have HKd := hid Kd
  have HC := hid hc
  have HM := hid hm
  have HK := hid hk
  have H47 := hid h47
  obtain ⟨P, hP⟩ : ∃ P, P = fun q => decide (q < m (l.item q).task.toNat) == first := ⟨_, rfl⟩
  rw [← hP]
  have HP := hid hP
  clear hl Kd hc hm hk hP h47
  go_enter Try.func37, Try.ntmps37
  go_wp2_with fail
  go_loopw [11, 12] (fun x y wr => ∃ k : Nat, a ≤ k ∧ k ≤ b ∧ y = .int .i64 (k : Int) ∧ EvRow w.heap.size wr x (evsF l.item P a (k - a)) ∧ Below w.heap.size w wr) (fun _ y _ => b - (intOf y).toNat)
  case atStart => exact ⟨a, Nat.le_refl _, hab, rfl, by rw [Nat.sub_self]; exact EvRow.nil _ _, Below.refl _ _⟩
  case round =>
    obtain ⟨k, hak, hkb, rfl, hr, hbl⟩ := hrel
    have HR := hid hr
    have HB := hid hbl
    clear hr hbl
    by_cases hlt : k < b
    · have hltn : k < l.n := by omega
      have hlt' : (k : Int) < (b : Int) := by omega
      have hltn' : (k : Int) < (l.n : Int) := by omega
      obtain ⟨b1, o1, hp, _, hl1, ha⟩ := (H.out.below HB.out).tr (by omega)
      obtain ⟨a0, a1, a2, a3⟩ := ha k hltn
      have hka : a + (k - a) = k := by omega
      have hks : k + 1 - a = (k - a) + 1 := by omega
      have HKA := hid hka
      have HKS := hid hks
      rw [hp]
      clear ha hp hka hks
      by_cases h1 : (l.item k).kind = 1
      · obtain ⟨h2, h3⟩ := HK.out k hak hlt h1
        obtain ⟨tt, htt⟩ : ∃ tt : Nat, (l.item k).task = (tt : Int) := ⟨(l.item k).task.toNat, by omega⟩
        have httT : tt < T := by omega
        have httT' : (tt : Int) < (T : Int) := by omega
        have gl : g < wr.heap.size := Nat.lt_of_lt_of_le hg HB.out.size
        have cc := (World.cell?_of_block (a := ⟨g, tt, none⟩) (HB.out.block g hg)).trans (HC.out tt httT)
        have HPk : Hid (P k = (decide (k < m tt) == first)) := by show _ = _; rw [HP.out]; simp only [htt, Int.toNat_natCast]
        have HT := hid htt
        have HK1 := hid h1
        rw [h1] at a0
        rw [htt] at a1
        clear h1 htt h2 h3
        by_cases hmk : k < m tt
        · have hmk' : (k : Int) < (m tt : Int) := by omega
          have HMk := hid hmk
          clear hmk
          cases first with
          | true =>
            have HE : Hid (evsF l.item P a (k + 1 - a) = evsF l.item P a (k - a) ++ [(l.item k).ev]) := by show _ = _; rw [HKS.out, evsF_yes (by rw [HKA.out]; exact HK1.out) (by rw [HKA.out, HPk.out]; simp [HMk.out]), HKA.out]
            have hlen : (evsF l.item P a (k - a)).length ≤ k - a := evsF_len _ _ _ _
            have h47 := H47.out
            go_upto_region 6 with fail
            refine wp_region_calmE 30 (fun wx => Below wr.heap.size wr wx) [(0, true), (1, true), (2, true), (3, true), (4, true), (5, false), (6, true), (7, true), (8, true), (9, true), (10, false), (11, true)] (.one 12 true [] (.one 13 false [(14, true)] .done)) (by kernel_rfl) (by kernel_rfl) (Below.refl _ _).drew ?_
            refine wpPre_e rfl rfl (fun K1 hK1 => ?_)
            apply Exists.intro
            refine And.intro (fun wx hx => ?_) ?_
            · go_simp
              try rfl
            go_simp
            refine hK1 _ ?_
            clear hK1 K1
            refine wpPre_e rfl rfl (fun K1 hK1 => ?_)
            apply Exists.intro
            refine And.intro (fun wx hx => ?_) ?_
            · go_simp
              try rfl
            go_simp
            refine hK1 _ ?_
            clear hK1 K1
            refine wpPre_e rfl rfl (fun K1 hK1 => ?_)
            apply Exists.intro
            refine And.intro (fun wx hx => ?_) ?_
            · go_simp
              try rfl
            go_simp
            refine hK1 _ ?_
            clear hK1 K1
            refine wpPre_e rfl rfl (fun K1 hK1 => ?_)
            apply Exists.intro
            refine And.intro (fun wx hx => ?_) ?_
            · go_simp
              try rfl
            go_simp
            refine hK1 _ ?_
            clear hK1 K1
            refine wpPre_e rfl rfl (fun K1 hK1 => ?_)
            apply Exists.intro
            refine And.intro (fun wx hx => ?_) ?_
            · go_simp
              try rfl
            go_simp
            refine hK1 _ ?_
            clear hK1 K1
            refine wpPre_e rfl rfl (fun K1 hK1 => ?_)
            apply Exists.intro
            refine And.intro (fun wx hx => ?_) ?_
            · have e0 := below_fact hx rfl a0
              have e1 := below_fact hx rfl a1
              have e2 := below_fact hx rfl a2
              have e3 := below_fact hx rfl a3
              go_simp
              try rfl
            go_simp
            refine hK1 _ ?_
            clear hK1 K1
            refine wpPre_e rfl rfl (fun K1 hK1 => ?_)
            apply Exists.intro
            refine And.intro (fun wx hx => ?_) ?_
            · go_simp
              try rfl
            go_simp
            refine hK1 _ ?_
            clear hK1 K1
            refine wpPre_e rfl rfl (fun K1 hK1 => ?_)
            apply Exists.intro
            refine And.intro (fun wx hx => ?_) ?_
            · go_simp
              try rfl
            go_simp
            refine hK1 _ ?_
            clear hK1 K1
            refine wpPre_e rfl rfl (fun K1 hK1 => ?_)
            apply Exists.intro
            refine And.intro (fun wx hx => ?_) ?_
            · go_simp
              try rfl
            go_simp
            refine hK1 _ ?_
            clear hK1 K1
            refine wpPre_e rfl rfl (fun K1 hK1 => ?_)
            apply Exists.intro
            refine And.intro (fun wx hx => ?_) ?_
            · go_simp
              try rfl
            go_simp
            refine hK1 _ ?_
            clear hK1 K1
            refine wpPre_e rfl rfl (fun K1 hK1 => ?_)
            apply Exists.intro
            refine And.intro (fun wx hx => ?_) ?_
            · have e0 := below_fact hx rfl a0
              have e1 := below_fact hx rfl a1
              have e2 := below_fact hx rfl a2
              have e3 := below_fact hx rfl a3
              go_simp
              try rfl
            go_simp
            refine hK1 _ ?_
            clear hK1 K1
            refine wpPre_e rfl rfl (fun K1 hK1 => ?_)
            apply Exists.intro
            refine And.intro (fun wx hx => ?_) ?_
            · go_simp
              try rfl
            go_simp
            refine hK1 _ ?_
            clear hK1 K1
            refine wpPre_nil ?_
            refine wpTr_e rfl (fun K1 hK1 => ?_)
            go_simp
            refine hK1 _ _ (fun _ => (below1 wr _).drew) ?_
            clear hK1 K1
            refine wpPre_nil ?_
            refine wpTr_e rfl (fun K1 hK1 => ?_)
            refine step_app rfl (.tmp 39) (.tmp 51) 31 39 i0 _ 2 16 HKd.out rfl w.heap.size u11 (evsF l.item P a (k - a)).length _ rfl (World.ownsRow.alloc HR.out _) ⟨wr.heap.size, 0, none⟩ 1 1 [.int .i64 (tt : Int), .int .i64 (l.item k).port] rfl rfl (news2 wr _ _) (one2 _ _) (by omega) (by omega) (by have := HB.out.size; simp; omega) ?_
            intro v3 w3 ho3 hg3 hn3
            obtain ⟨pp, cc, rfl⟩ := ownsRow_slice ho3
            have HR3 : Hid (EvRow w.heap.size w3 (.slice pp ((evsF l.item P a (k - a)).length + 1) cc) (evsF l.item P a (k - a) ++ [(l.item k).ev])) := EvRow.push (by unfold TR.ev EV.cells; rw [HT.out]; exact ho3)
            have HB3 : Hid (Below w.heap.size w w3) := (HB.out.trans ((below1 wr (.cells #[.int .i64 (tt : Int), .int .i64 (l.item k).port] 39)).mono HB.out.size)).drew.grown hg3 (by have := HB.out.size; simp; omega) (fun q hq => (HR.out.lt q hq).1)
            clear ho3 hg3 hn3
            go_simp
            refine hK1 _ _ (fun h => by cases h) ?_
            clear hK1 K1
            refine wpPre_e rfl rfl (fun K1 hK1 => ?_)
            apply Exists.intro
            refine And.intro (fun wx hx => ?_) ?_
            · go_simp
              try rfl
            go_simp
            refine hK1 _ ?_
            clear hK1 K1
            refine wpPre_nil ?_
            refine wpTr_done ?_
            go_wp2
            go_roundw
            case rel => exact ⟨k + 1, by omega, by omega, by go_num, by rw [HE.out]; exact HR3.out, HB3.out⟩
            case measure => simp [intOf]; omega
          | false =>
            have HE : Hid (evsF l.item P a (k + 1 - a) = evsF l.item P a (k - a)) := by show _ = _; rw [HKS.out]; exact evsF_no (by rw [HKA.out]; rintro ⟨e1, e2⟩; rw [HPk.out] at e2; simp [HMk.out] at e2)
            go_wp2
            go_roundw
            case rel => exact ⟨k + 1, by omega, by omega, by go_num, by rw [HE.out]; exact HR.out, HB.out⟩
            case measure => simp [intOf]; omega
        · have hmk' : ¬ (k : Int) < (m tt : Int) := by omega
          have HMk := hid hmk
          clear hmk
          cases first with
          | true =>
            have HE : Hid (evsF l.item P a (k + 1 - a) = evsF l.item P a (k - a)) := by show _ = _; rw [HKS.out]; exact evsF_no (by rw [HKA.out]; rintro ⟨e1, e2⟩; rw [HPk.out] at e2; simp [HMk.out] at e2)
            go_wp2
            go_roundw
            case rel => exact ⟨k + 1, by omega, by omega, by go_num, by rw [HE.out]; exact HR.out, HB.out⟩
            case measure => simp [intOf]; omega
          | false =>
            have HE : Hid (evsF l.item P a (k + 1 - a) = evsF l.item P a (k - a) ++ [(l.item k).ev]) := by show _ = _; rw [HKS.out, evsF_yes (by rw [HKA.out]; exact HK1.out) (by rw [HKA.out, HPk.out]; simp [HMk.out]), HKA.out]
            have hlen : (evsF l.item P a (k - a)).length ≤ k - a := evsF_len _ _ _ _
            have h47 := H47.out
            go_upto_region 6 with fail
            refine wp_region_calmE 30 (fun wx => Below wr.heap.size wr wx) [(0, true), (1, true), (2, true), (3, true), (4, true), (5, false), (6, true), (7, true), (8, true), (9, true), (10, false), (11, true)] (.one 12 true [] (.one 13 false [(14, true)] .done)) (by kernel_rfl) (by kernel_rfl) (Below.refl _ _).drew ?_
            refine wpPre_e rfl rfl (fun K1 hK1 => ?_)
            apply Exists.intro
            refine And.intro (fun wx hx => ?_) ?_
            · go_simp
              try rfl
            go_simp
            refine hK1 _ ?_
            clear hK1 K1
            refine wpPre_e rfl rfl (fun K1 hK1 => ?_)
            apply Exists.intro
            refine And.intro (fun wx hx => ?_) ?_
            · go_simp
              try rfl
            go_simp
            refine hK1 _ ?_
            clear hK1 K1
            refine wpPre_e rfl rfl (fun K1 hK1 => ?_)
            apply Exists.intro
            refine And.intro (fun wx hx => ?_) ?_
            · go_simp
              try rfl
            go_simp
            refine hK1 _ ?_
            clear hK1 K1
            refine wpPre_e rfl rfl (fun K1 hK1 => ?_)
            apply Exists.intro
            refine And.intro (fun wx hx => ?_) ?_
            · go_simp
              try rfl
            go_simp
            refine hK1 _ ?_
            clear hK1 K1
            refine wpPre_e rfl rfl (fun K1 hK1 => ?_)
            apply Exists.intro
            refine And.intro (fun wx hx => ?_) ?_
            · go_simp
              try rfl
            go_simp
            refine hK1 _ ?_
            clear hK1 K1
            refine wpPre_e rfl rfl (fun K1 hK1 => ?_)
            apply Exists.intro
            refine And.intro (fun wx hx => ?_) ?_
            · have e0 := below_fact hx rfl a0
              have e1 := below_fact hx rfl a1
              have e2 := below_fact hx rfl a2
              have e3 := below_fact hx rfl a3
              go_simp
              try rfl
            go_simp
            refine hK1 _ ?_
            clear hK1 K1
            refine wpPre_e rfl rfl (fun K1 hK1 => ?_)
            apply Exists.intro
            refine And.intro (fun wx hx => ?_) ?_
            · go_simp
              try rfl
            go_simp
            refine hK1 _ ?_
            clear hK1 K1
            refine wpPre_e rfl rfl (fun K1 hK1 => ?_)
            apply Exists.intro
            refine And.intro (fun wx hx => ?_) ?_
            · go_simp
              try rfl
            go_simp
            refine hK1 _ ?_
            clear hK1 K1
            refine wpPre_e rfl rfl (fun K1 hK1 => ?_)
            apply Exists.intro
            refine And.intro (fun wx hx => ?_) ?_
            · go_simp
              try rfl
            go_simp
            refine hK1 _ ?_
            clear hK1 K1
            refine wpPre_e rfl rfl (fun K1 hK1 => ?_)
            apply Exists.intro
            refine And.intro (fun wx hx => ?_) ?_
            · go_simp
              try rfl
            go_simp
            refine hK1 _ ?_
            clear hK1 K1
            refine wpPre_e rfl rfl (fun K1 hK1 => ?_)
            apply Exists.intro
            refine And.intro (fun wx hx => ?_) ?_
            · have e0 := below_fact hx rfl a0
              have e1 := below_fact hx rfl a1
              have e2 := below_fact hx rfl a2
              have e3 := below_fact hx rfl a3
              go_simp
              try rfl
            go_simp
            refine hK1 _ ?_
            clear hK1 K1
            refine wpPre_e rfl rfl (fun K1 hK1 => ?_)
            apply Exists.intro
            refine And.intro (fun wx hx => ?_) ?_
            · go_simp
              try rfl
            go_simp
            refine hK1 _ ?_
            clear hK1 K1
            refine wpPre_nil ?_
            refine wpTr_e rfl (fun K1 hK1 => ?_)
            go_simp
            refine hK1 _ _ (fun _ => (below1 wr _).drew) ?_
            clear hK1 K1
            refine wpPre_nil ?_
            refine wpTr_e rfl (fun K1 hK1 => ?_)
            refine step_app rfl (.tmp 39) (.tmp 51) 31 39 i0 _ 2 16 HKd.out rfl w.heap.size u11 (evsF l.item P a (k - a)).length _ rfl (World.ownsRow.alloc HR.out _) ⟨wr.heap.size, 0, none⟩ 1 1 [.int .i64 (tt : Int), .int .i64 (l.item k).port] rfl rfl (news2 wr _ _) (one2 _ _) (by omega) (by omega) (by have := HB.out.size; simp; omega) ?_
            intro v3 w3 ho3 hg3 hn3
            obtain ⟨pp, cc, rfl⟩ := ownsRow_slice ho3
            have HR3 : Hid (EvRow w.heap.size w3 (.slice pp ((evsF l.item P a (k - a)).length + 1) cc) (evsF l.item P a (k - a) ++ [(l.item k).ev])) := EvRow.push (by unfold TR.ev EV.cells; rw [HT.out]; exact ho3)
            have HB3 : Hid (Below w.heap.size w w3) := (HB.out.trans ((below1 wr (.cells #[.int .i64 (tt : Int), .int .i64 (l.item k).port] 39)).mono HB.out.size)).drew.grown hg3 (by have := HB.out.size; simp; omega) (fun q hq => (HR.out.lt q hq).1)
            clear ho3 hg3 hn3
            go_simp
            refine hK1 _ _ (fun h => by cases h) ?_
            clear hK1 K1
            refine wpPre_e rfl rfl (fun K1 hK1 => ?_)
            apply Exists.intro
            refine And.intro (fun wx hx => ?_) ?_
            · go_simp
              try rfl
            go_simp
            refine hK1 _ ?_
            clear hK1 K1
            refine wpPre_nil ?_
            refine wpTr_done ?_
            go_wp2
            go_roundw
            case rel => exact ⟨k + 1, by omega, by omega, by go_num, by rw [HE.out]; exact HR3.out, HB3.out⟩
            case measure => simp [intOf]; omega
      · have HNk := hid h1
        have HE : Hid (evsF l.item P a (k + 1 - a) = evsF l.item P a (k - a)) := by show _ = _; rw [HKS.out]; exact evsF_no (by rw [HKA.out]; rintro ⟨e1, e2⟩; exact HNk.out e1)
        go_wp2
        go_roundw
        case rel => exact ⟨k + 1, by omega, by omega, by go_num, by rw [HE.out]; exact HR.out, HB.out⟩
        case measure => simp [intOf]; omega
    · obtain rfl : k = b := by omega
      obtain ⟨pp, cc, rfl⟩ := ownsRow_slice HR.out
      go_wp2
      go_ret
      exact ⟨_, rfl, HR.out, HB.out⟩
end Go.Proofs.Ytbkikbhodgjijaa
