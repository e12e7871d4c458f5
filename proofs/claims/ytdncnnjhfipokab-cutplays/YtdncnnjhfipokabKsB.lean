import Derived.Test.YtdncnnjhfipokabKsA
import Derived.Test.YtdncnnjhfipokabPack8
namespace Go.Proofs.Ytdncnnjhfipokab
open Go.RowKit
set_option maxRecDepth 8000
def RecsAlike (y u : LT RT) : Prop := u.n = y.n ∧ ∀ j, j < y.n → RT.Alike (y.item j) (u.item j)
set_option maxHeartbeats 4000000 in
theorem yRecord (r q : RT) (w : World) (S R : Nat → Prop) (hr : RT.In w S r) (hq : RT.In w R q) :
    Calls Try.prog 60 #[r.val, q.val] w fun e w' => YesNo (RT.Alike r q) e w w' := by
  have hb0 : Below w.heap.size w ((w.alloc (.cells #[.string r.key, .int .i64 r.v.kind, .int .i64 r.v.int, .string r.v.text, .slice r.v.p r.v.n r.v.c, .slice r.p r.n r.c] 38)).alloc (.cells #[.string q.key, .int .i64 q.v.kind, .int .i64 q.v.int, .string q.v.text, .slice q.v.p q.v.n q.v.c, .slice q.p q.n q.c] 38)) := ((Below.refl _ _).alloc (Nat.le_refl _) _).alloc (by simp) _
  have hx0 := (Box.new w #[.string r.key, .int .i64 r.v.kind, .int .i64 r.v.int, .string r.v.text, .slice r.v.p r.v.n r.v.c, .slice r.p r.n r.c] 38).below ((Below.refl _ _).alloc (Nat.le_refl _) (.cells #[.string q.key, .int .i64 q.v.kind, .int .i64 q.v.int, .string q.v.text, .slice q.v.p q.v.n q.v.c, .slice q.p q.n q.c] 38))
  have hy0 := Box.new (w.alloc (.cells #[.string r.key, .int .i64 r.v.kind, .int .i64 r.v.int, .string r.v.text, .slice r.v.p r.v.n r.v.c, .slice r.p r.n r.c] 38)) #[.string q.key, .int .i64 q.v.kind, .int .i64 q.v.int, .string q.v.text, .slice q.v.p q.v.n q.v.c, .slice q.p q.n q.c] 38
  rw [show (w.alloc (.cells #[.string r.key, .int .i64 r.v.kind, .int .i64 r.v.int, .string r.v.text, .slice r.v.p r.v.n r.v.c, .slice r.p r.n r.c] 38)).heap.size = w.heap.size + 1 by simp] at hy0
  have HV : ∀ W, Below w.heap.size w W → Calls Try.prog 59 #[r.v.val, q.v.val] W fun e w' => YesNo (VT.Alike r.v q.v) e W w' := fun W hW => yValue r.v q.v W S R (hr.v.below hW) (hq.v.below hW)
  unfold VT.val at HV
  have HC := hid (HV _ hb0)
  have HX0 := hid hx0
  have HY0 := hid hy0
  have HB0 := hid hb0
  have hrn := hr.l.nn
  have HIr := hid hr.l
  have HIq := hid hq.l
  unfold RT.val
  clear hr hq hb0 hx0 hy0 HV
  by_cases hk : r.key = q.key
  case neg =>
    have hk' := str_ne hk
    have HN : Hid (¬ RT.Alike r q) := fun h => hk h.key.symm
    clear hk HC
    go_enter Try.func60, Try.ntmps60
    go_wp2
    go_ret
    exact yn_no HN.out HB0.out
  have HK := hid hk
  obtain ⟨key, v, p, n, c, lp⟩ := r
  obtain ⟨key2, v2, p2, n2, c2, lp2⟩ := q
  simp only at hk HC HX0 HY0 HB0 HIr HIq hrn ⊢
  subst hk
  clear HK
  go_enter Try.func60, Try.ntmps60
  go_wp2_with fail
  refine HC.out.mono ?_
  rintro x w1 ⟨r1, rfl, hr1, hb1⟩
  have hx1 := HX0.out.below hb1
  have hy1 := HY0.out.below hb1
  have c5 := hx1.cell 5
  have d5 := hy1.cell 5
  simp only [List.getElem?_toArray, List.getElem?_cons_zero, List.getElem?_cons_succ] at c5 d5
  have HX1 := hid hx1
  have HY1 := hid hy1
  have HB1 := hid (HB0.out.trans (hb1.mono HB0.out.size))
  clear hx1 hy1 hb1 HC HX0 HY0 HB0
  cases r1 with
  | false =>
    have HN : Hid (¬ RT.Alike ⟨key, v, p, n, c, lp⟩ ⟨key, v2, p2, n2, c2, lp2⟩) := fun h => absurd (hr1.2 h.v) (by decide)
    clear hr1
    go_wp2
    go_ret
    exact yn_no HN.out HB1.out
  | true =>
    have HVA := hid (hr1.1 rfl)
    clear hr1
    by_cases hn : n = n2
    case neg =>
      have hn' := int_ne hn
      have HN : Hid (¬ RT.Alike ⟨key, v, p, n, c, lp⟩ ⟨key, v2, p2, n2, c2, lp2⟩) := fun h => hn h.n.symm
      clear hn
      go_wp2
      go_ret
      exact yn_no HN.out HB1.out
    subst hn
    go_wp2_with fail
    go_loopw [5] (fun x wr => ∃ j : Nat, j ≤ n ∧ x = .int .i64 j ∧ (∀ i, i < j → lp2 i = lp i) ∧ Below w1.heap.size w1 wr) (fun x _ => n - (intOf x).toNat)
    case atStart => exact ⟨0, Nat.zero_le _, rfl, fun i hi => absurd hi (by omega), Below.refl _ _⟩
    case round =>
      obtain ⟨j, hj, rfl, hA, hbel⟩ := hrel
      have HA := hid hA
      clear hA
      have hx2 := HX1.out.below hbel
      have hy2 := HY1.out.below hbel
      have a5 := hx2.cell 5
      have b5 := hy2.cell 5
      simp only [List.getElem?_toArray, List.getElem?_cons_zero, List.getElem?_cons_succ] at a5 b5
      have hs1 := HB1.out.size
      have HB2 := hid hbel
      by_cases hlt : j < n
      · have hlt' : (j : Int) < (n : Int) := by omega
        obtain ⟨b1, o1, hp, _, hl1, ha⟩ := HIr.out.at_ (by omega)
        obtain ⟨b2, o2, hp', _, hl2, ha'⟩ := HIq.out.at_ (by omega)
        have e1 := (World.cell?_of_block (a := ⟨b1, o1 + j, none⟩) ((hbel.block b1 (by omega)).trans (HB1.out.block b1 hl1))).trans (ha j hlt)
        have e2 := (World.cell?_of_block (a := ⟨b2, o2 + j, none⟩) ((hbel.block b2 (by omega)).trans (HB1.out.block b2 hl2))).trans (ha' j hlt)
        rw [hp] at a5
        rw [hp'] at b5
        clear ha ha' hbel hx2 hy2 c5 d5
        by_cases hi : lp2 j = lp j
        · have HA2 : Hid (∀ i, i < j + 1 → lp2 i = lp i) := fun i hi2 => by
            by_cases h : i < j
            · exact HA.out i h
            · obtain rfl : i = j := by omega
              exact hi
          rw [hi] at e2
          clear hi
          go_wp2_with fail
          go_region
          all_goals
            go_wp2
            go_roundw
            case rel => exact ⟨j + 1, by omega, by go_num, HA2.out, HB2.out.drew⟩
            case measure => simp [intOf]; omega
        · have hi' : (lp j != lp2 j) = true := by rw [bne_iff_ne]; exact fun h => hi h.symm
          have HN : Hid (¬ RT.Alike ⟨key, v, p, n, c, lp⟩ ⟨key, v2, p2, n, c2, lp2⟩) := fun h => hi (h.loop j hlt)
          clear hi
          go_wp2_with fail
          go_region
          all_goals
            go_wp2
            go_ret
            exact yn_no HN.out (HB1.out.trans (HB2.out.drew.mono hs1))
      · obtain rfl : j = n := by omega
        have hlt' : ¬ (j : Int) < (j : Int) := by omega
        clear hbel hx2 hy2
        go_wp2
        go_ret
        exact yn_yes ⟨rfl, HVA.out, rfl, HA.out⟩ (HB1.out.trans (HB2.out.mono hs1))
set_option maxHeartbeats 4000000 in
theorem yRecords (l u : LT RT) (w : World) (S R : Nat → Prop) (hl : LT.In elRec w S l) (hu : LT.In elRec w R u) :
    Calls Try.prog 50 #[.slice l.p l.n l.c, .slice u.p u.n u.c] w fun e w' => YesNo (RecsAlike l u) e w w' := by
  obtain ⟨p, n, c, f⟩ := l
  obtain ⟨p2, n2, c2, f2⟩ := u
  have hnn := hl.nn
  have H := hid hl
  have H' := hid hu
  simp only at hnn ⊢
  clear hl hu
  by_cases hn : n = n2
  case neg =>
    have hn' := int_ne hn
    have HN : Hid (¬ RecsAlike ⟨p, n, c, f⟩ ⟨p2, n2, c2, f2⟩) := fun h => hn h.1.symm
    go_enter Try.func50, Try.ntmps50
    go_wp2
    go_ret
    exact yn_no HN.out (Below.refl _ _)
  subst hn
  go_enter Try.func50, Try.ntmps50
  go_wp2_with fail
  go_loopw [5] (fun x wr => ∃ j : Nat, j ≤ n ∧ x = .int .i64 j ∧ (∀ q, q < j → RT.Alike (f q) (f2 q)) ∧ Below w.heap.size w wr) (fun x _ => n - (intOf x).toNat)
  case atStart => exact ⟨0, Nat.zero_le _, rfl, fun q hq => absurd hq (by omega), Below.refl _ _⟩
  case round =>
    obtain ⟨j, hj, rfl, hA, hbel⟩ := hrel
    have HA := hid hA
    have HB := hid hbel
    clear hA
    by_cases hlt : j < n
    · have hlt' : (j : Int) < (n : Int) := by omega
      obtain ⟨b1, o1, hp, _, hl1, ha⟩ := H.out.at_ (show 0 < n by omega)
      obtain ⟨b2, o2, hp', _, hl2, ha'⟩ := H'.out.at_ (show 0 < n by omega)
      simp only at hp hp'
      subst hp hp'
      have hca : ∀ r u, (elRec.cells (f j))[r]? = some u → wr.cell? ⟨b1, o1 + j * 6 + r, none⟩ = some u := fun r u hu => (World.cell?_of_block (a := ⟨b1, o1 + j * 6 + r, none⟩) (hbel.block b1 hl1)).trans (ha j hlt r u hu)
      have hcb : ∀ r u, (elRec.cells (f2 j))[r]? = some u → wr.cell? ⟨b2, o2 + j * 6 + r, none⟩ = some u := fun r u hu => (World.cell?_of_block (a := ⟨b2, o2 + j * 6 + r, none⟩) (hbel.block b2 hl2)).trans (ha' j hlt r u hu)
      have a0 := hca 0 _ rfl
      have a1 := hca 1 _ rfl
      have a2 := hca 2 _ rfl
      have a3 := hca 3 _ rfl
      have a4 := hca 4 _ rfl
      have a5 := hca 5 _ rfl
      have e0 := hcb 0 _ rfl
      have e1 := hcb 1 _ rfl
      have e2 := hcb 2 _ rfl
      have e3 := hcb 3 _ rfl
      have e4 := hcb 4 _ rfl
      have e5 := hcb 5 _ rfl
      simp only [Nat.add_zero] at a0 e0
      have HC : Hid (∀ W, Below wr.heap.size wr W → Calls Try.prog 60 #[(f j).val, (f2 j).val] W fun e w' => YesNo (RT.Alike (f j) (f2 j)) e W w') := fun W hW =>
        yRecord (f j) (f2 j) W _ _ ((show RT.In w S (f j) from H.out.each j hlt).below ((HB.out).trans (hW.mono HB.out.size))) ((show RT.In w R (f2 j) from H'.out.each j hlt).below ((HB.out).trans (hW.mono HB.out.size)))
      unfold RT.val at HC
      have HW : Hid (∀ w4, Below wr.heap.size wr.drew w4 → Below w.heap.size w w4) := fun w4 hb4 => HB.out.trans ((((Below.refl wr.heap.size wr).drew.trans hb4)).mono HB.out.size)
      clear ha ha' hbel hca hcb
      go_wp2_with fail
      go_region_with (go_at_call 60; refine (HC.out _ ?_).mono ?_; exact (Below.refl _ _).drew; intro e w4 hP4; obtain ⟨r4, rfl, hr4, hb4⟩ := hP4)
      all_goals
        cases r4 with
        | false =>
          have HN : Hid (¬ RecsAlike ⟨some ⟨b1, o1, none⟩, n, c, f⟩ ⟨some ⟨b2, o2, none⟩, n, c2, f2⟩) := fun h => absurd (hr4.2 (h.2 j hlt)) (by decide)
          have HBe := hid (HW.out w4 hb4)
          clear hr4 hb4
          go_wp2
          go_ret
          exact yn_no HN.out HBe.out
        | true =>
          have HA2 : Hid (∀ q, q < j + 1 → RT.Alike (f q) (f2 q)) := fun q hq => by
            by_cases h : q < j
            · exact HA.out q h
            · obtain rfl : q = j := by omega
              exact hr4.1 rfl
          have HBe := hid (HW.out w4 hb4)
          clear hr4 hb4
          go_wp2
          go_roundw
          case rel => exact ⟨j + 1, by omega, by go_num, HA2.out, HBe.out⟩
          case measure => simp [intOf]; omega
    · obtain rfl : j = n := by omega
      have hlt' : ¬ (j : Int) < (j : Int) := by omega
      clear hbel
      go_wp2
      go_ret
      exact yn_yes ⟨rfl, HA.out⟩ HB.out
end Go.Proofs.Ytdncnnjhfipokab
