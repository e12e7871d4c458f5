import Derived.Test.YtfonicphdejdlaaGreatPack1
import Derived.Test.YtfonicphdejdlaaGreatPack19
import Derived.Test.YtfonicphdejdlaaGreatPack17
import Derived.Test.YtfonicphdejdlaaGreatPack12
namespace Go.Proofs.YtfonicphdejdlaaGreat
open Go.RowKit
set_option maxRecDepth 8000
/-- lists of cells -/
def CellsAlike (l u : LT VT) : Prop := u.n = l.n ∧ ∀ j, j < l.n → CAlike (l.item j) (u.item j)
set_option maxHeartbeats 4000000 in
theorem yCells (l u : LT VT) (w : World) (S R : Nat → Prop) (hl : LT.In elCell w S l) (hu : LT.In elCell w R u) :
    Calls Tryz.prog 29 #[.slice l.p l.n l.c, .slice u.p u.n u.c] w fun e w' => YesNo (CellsAlike l u) e w w' := by
  obtain ⟨p, n, c, f⟩ := l
  obtain ⟨p2, n2, c2, f2⟩ := u
  have hnn := hl.nn
  have H := hid hl
  have H' := hid hu
  simp only at hnn ⊢
  clear hl hu
  by_cases hn : n = n2
  case neg =>
    have hn' := int_ne hn
    have HN : Hid (¬ CellsAlike ⟨p, n, c, f⟩ ⟨p2, n2, c2, f2⟩) := fun h => hn h.1.symm
    go_enter Tryz.func29, Tryz.ntmps29
    go_wp2
    go_ret
    exact yn_no HN.out (Below.refl _ _)
  subst hn
  go_enter Tryz.func29, Tryz.ntmps29
  go_wp2_with fail
  go_loopw [5] (fun x wr => ∃ j : Nat, j ≤ n ∧ x = .int .i64 j ∧ (∀ q, q < j → CAlike (f q) (f2 q)) ∧ Below w.heap.size w wr) (fun x _ => n - (intOf x).toNat)
  case atStart => exact ⟨0, Nat.zero_le _, rfl, fun q hq => absurd hq (by omega), Below.refl _ _⟩
  case round =>
    obtain ⟨j, hj, rfl, hA, hbel⟩ := hrel
    have HA := hid hA
    have HB := hid hbel
    clear hA
    by_cases hlt : j < n
    · have hlt' : (j : Int) < (n : Int) := by omega
      obtain ⟨b1, o1, hp, _, hl1, ha⟩ := H.out.at_ (show 0 < n by omega)
      obtain ⟨b2, o2, hp', _, hl2, ha'⟩ := H'.out.at_ (show 0 < n by omega)
      simp only at hp hp'
      subst hp hp'
      have hca : ∀ r u, (elCell.cells (f j))[r]? = some u → w.cell? ⟨b1, o1 + j * 2 + r, none⟩ = some u := fun r u hu => ha j hlt r u hu
      have hcb : ∀ r u, (elCell.cells (f2 j))[r]? = some u → w.cell? ⟨b2, o2 + j * 2 + r, none⟩ = some u := fun r u hu => ha' j hlt r u hu
      have q0 := hca 0 _ rfl
      have q1 := hca 1 _ rfl
      have r0 := hcb 0 _ rfl
      have r1 := hcb 1 _ rfl
      simp only [Nat.add_zero] at q0 r0
      have HQ1 := hid q1
      have HR1 := hid r1
      have a0 := (World.cell?_of_block (a := ⟨b1, o1 + j * 2, none⟩) (hbel.block b1 hl1)).trans q0
      have a1 := (World.cell?_of_block (a := ⟨b1, o1 + j * 2 + 1, none⟩) (hbel.block b1 hl1)).trans q1
      have e0 := (World.cell?_of_block (a := ⟨b2, o2 + j * 2, none⟩) (hbel.block b2 hl2)).trans r0
      have e1 := (World.cell?_of_block (a := ⟨b2, o2 + j * 2 + 1, none⟩) (hbel.block b2 hl2)).trans r1
      have hI : VT.In w S (f j) := H.out.each j hlt
      have hU : VT.In w R (f2 j) := H'.out.each j hlt
      obtain ⟨xk, xi, xs, xn, xp, xc, xf, hx⟩ := hI.mk_
      obtain ⟨yk, yi, ys, yn, yp, yc, yf, hy⟩ := hU.mk_
      rw [hx] at hI a0 a1 HQ1
      rw [hy] at hU e0 e1 HR1
      simp only [VT.text_mk, VT.p_mk, VT.n_mk, VT.c_mk] at a0 a1 e0 e1 HQ1 HR1
      have hxn := hI.fit.nn
      simp only [VT.n_mk] at hxn
      have HI := hid hI
      have HU := hid hU
      clear ha ha' hbel hca hcb q0 q1 r0 r1 hI hU
      by_cases hs : xs = ys
      case neg =>
        have hs' := str_ne hs
        have HN : Hid (¬ CellsAlike ⟨some ⟨b1, o1, none⟩, n, c, f⟩ ⟨some ⟨b2, o2, none⟩, n, c2, f2⟩) := fun h => hs (by have := (h.2 j hlt).text; simp only [hx, hy, VT.text_mk] at this; exact this.symm)
        clear hs hx hy
        go_wp2_with fail
        go_region
        all_goals
          go_wp2
          go_ret
          exact yn_no HN.out HB.out.drew
      by_cases hm : xn = yn
      case neg =>
        have hm' := int_ne hm
        have HN : Hid (¬ CellsAlike ⟨some ⟨b1, o1, none⟩, n, c, f⟩ ⟨some ⟨b2, o2, none⟩, n, c2, f2⟩) := fun h => hm (by have := (h.2 j hlt).n; simp only [hx, hy, VT.n_mk] at this; exact this.symm)
        subst hs
        clear hm hx hy
        go_wp2_with fail
        go_region
        all_goals
          go_wp2
          go_ret
          exact yn_no HN.out HB.out.drew
      subst hs hm
      go_wp2_with fail
      go_region
      all_goals
        go_wp2_with fail
        all_goals
          go_loopw [6] (fun x wr => ∃ m : Nat, m ≤ xn ∧ x = .int .i64 m ∧ (∀ i, i < m → VT.Alike (xf i) (yf i)) ∧ Below w.heap.size w wr) (fun x _ => xn - (intOf x).toNat)
          case atStart => exact ⟨0, Nat.zero_le _, rfl, fun q hq => absurd hq (by omega), HB.out.drew⟩
          case round =>
            obtain ⟨m, hm, rfl, hM, hbq⟩ := hrel
            have HM := hid hM
            have HBq := hid hbq
            clear hM a0 a1 e0 e1
            have a1 := (World.cell?_of_block (a := ⟨b1, o1 + j * 2 + 1, none⟩) (hbq.block b1 hl1)).trans HQ1.out
            have e1 := (World.cell?_of_block (a := ⟨b2, o2 + j * 2 + 1, none⟩) (hbq.block b2 hl2)).trans HR1.out
            by_cases hlm : m < xn
            · have hlm' : (m : Int) < (xn : Int) := by omega
              obtain ⟨bb, oo, hp3, hSb, hbl3, hat⟩ := HI.out.at_ (show 0 < (VT.mk xk xi xs xn xp xc xf).n from by simp only [VT.n]; omega)
              obtain ⟨bb2, oo2, hp4, hSb2, hbl4, hat2⟩ := HU.out.at_ (show 0 < (VT.mk yk yi xs xn yp yc yf).n from by simp only [VT.n]; omega)
              simp only [VT.p_mk] at hp3 hp4
              subst hp3 hp4
              obtain ⟨c0, c1, c2', c3⟩ := (hat m hlm).kept (hbq.block bb hbl3)
              obtain ⟨d0, d1, d2, d3⟩ := (hat2 m hlm).kept (hbq.block bb2 hbl4)
              simp only [VT.item_mk] at c0 c1 c2' c3 d0 d1 d2 d3
              have HC : Hid (∀ W, Below wr.heap.size wr W → Calls Tryz.prog 32 #[(xf m).val, (yf m).val] W fun e w' => YesNo (VT.Alike (xf m) (yf m)) e W w') := fun W hW =>
                yValue (xf m) (yf m) W (fun b => S b ∧ b < w.heap.size) (fun b => R b ∧ b < w.heap.size) ((((HI.out.sub hlm).mono fun b hb hl => ⟨hb, hl⟩).kept hbq.size (fun b hb _ => hbq.block b hb.2)).below hW) ((((HU.out.sub hlm).mono fun b hb hl => ⟨hb, hl⟩).kept hbq.size (fun b hb _ => hbq.block b hb.2)).below hW)
              unfold VT.val at HC
              have HW : Hid (∀ w4, Below wr.heap.size wr.drew w4 → Below w.heap.size w w4) := fun w4 hb4 => HBq.out.trans ((((Below.refl wr.heap.size wr).drew.trans hb4)).mono HBq.out.size)
              clear hat hat2 hbq
              go_wp2_with fail
              go_region_with (go_at_call 32; refine (HC.out _ ?_).mono ?_; exact (Below.refl _ _).drew; intro e w4 hP4; obtain ⟨r4, rfl, hr4, hb4⟩ := hP4)
              all_goals
                cases r4 with
                | false =>
                  have HN : Hid (¬ CellsAlike ⟨some ⟨b1, o1, none⟩, n, c, f⟩ ⟨some ⟨b2, o2, none⟩, n, c2, f2⟩) := fun h => absurd (hr4.2 (by have := (h.2 j hlt).item m (by simp only [hx, VT.n_mk]; exact hlm); simp only [hx, hy, VT.item_mk] at this; exact this)) (by decide)
                  have HBe := hid (HW.out w4 hb4)
                  clear hr4 hb4
                  go_wp2
                  go_ret
                  exact yn_no HN.out HBe.out
                | true =>
                  have HM2 : Hid (∀ i, i < m + 1 → VT.Alike (xf i) (yf i)) := fun q hq => by
                    by_cases h : q < m
                    · exact HM.out q h
                    · obtain rfl : q = m := by omega
                      exact hr4.1 rfl
                  have HBe := hid (HW.out w4 hb4)
                  clear hr4 hb4
                  go_wp2
                  go_roundw
                  case rel => exact ⟨m + 1, by omega, by go_num, HM2.out, HBe.out⟩
                  case measure => simp [intOf]; omega
            · obtain rfl : m = xn := by omega
              have hlm' : ¬ (m : Int) < (m : Int) := by omega
              have HA2 : Hid (∀ q, q < j + 1 → CAlike (f q) (f2 q)) := fun q hq => by
                by_cases h : q < j
                · exact HA.out q h
                · obtain rfl : q = j := by omega
                  rw [hx, hy]
                  exact ⟨rfl, rfl, HM.out⟩
              clear hbq
              go_wp2
              go_roundw
              case rel => exact ⟨j + 1, by omega, by go_num, HA2.out, HBq.out⟩
              case measure => simp [intOf]; omega
    · obtain rfl : j = n := by omega
      have hlt' : ¬ (j : Int) < (j : Int) := by omega
      clear hbel
      go_wp2
      go_ret
      exact yn_yes ⟨rfl, HA.out⟩ HB.out
end Go.Proofs.YtfonicphdejdlaaGreat

namespace Go.Proofs.YtfonicphdejdlaaGreat
open Go.RowKit
set_option maxRecDepth 8000

/-- an error's number is told -/
def errPost (k : Nat) (w : World) (x : Ending) (w' : World) : Prop := x = .returned (.int .i64 (k : Int)) ∧ Below w.heap.size w w'
set_option maxHeartbeats 1000000 in
theorem within_yes (n : Int) (b : Nat) (h1 : 0 ≤ n) (h2 : n ≤ (b : Int)) (w : World) : Calls Tryz.prog 74 #[.int .i64 n, .int .i64 b] w fun x w' => x = .returned (.bool true) ∧ w' = w := by
  go_enter Tryz.func74, Tryz.ntmps74
  go_wp2
  go_ret
  exact ⟨rfl, rfl⟩
set_option maxHeartbeats 1000000 in
theorem within_no (n : Int) (b : Nat) (h : ¬ (0 ≤ n ∧ n ≤ (b : Int))) (w : World) : Calls Tryz.prog 74 #[.int .i64 n, .int .i64 b] w fun x w' => x = .returned (.bool false) ∧ w' = w := by
  by_cases h1 : 0 ≤ n
  · have h2 : ¬ n ≤ (b : Int) := fun h2 => h ⟨h1, h2⟩
    go_enter Tryz.func74, Tryz.ntmps74
    go_wp2
    go_ret
    exact ⟨rfl, rfl⟩
  · go_enter Tryz.func74, Tryz.ntmps74
    go_wp2
    go_ret
    exact ⟨rfl, rfl⟩
theorem within_gen (n : Int) (b : Nat) (w : World) : Calls Tryz.prog 74 #[.int .i64 n, .int .i64 b] w fun x w' => x = .returned (.bool (decide (0 ≤ n ∧ n ≤ (b : Int)))) ∧ w' = w := by
  by_cases h : 0 ≤ n ∧ n ≤ (b : Int)
  · rw [decide_eq_true h]; exact within_yes n b h.1 h.2 w
  · rw [decide_eq_false h]; exact within_no n b h w
/-- what is wrong with a list of records -/
def chkRecs (l : LT RT) : Nat := if 256 < l.n then 43 else firstC (fun j => chkRec (l.item j)) l.n
set_option maxHeartbeats 4000000 in
theorem ckRecords_gen (l : LT RT) (w : World) (S : Nat → Prop) (hin : LT.In elRec w S l) (hS : ∀ b, S b → b < w.heap.size) : Calls Tryz.prog 77 #[.slice l.p l.n l.c] w fun x w' => errPost (chkRecs l) w x w' := by
  have E : Hid (chkRecs l = if 256 < l.n then 43 else firstC (fun j => chkRec (l.item j)) l.n) := rfl
  generalize chkRecs l = res at *
  have HIn := hid hin
  have HS := hid hS
  obtain ⟨p, n, c, item⟩ := l
  simp only at *
  clear hin hS
  by_cases hn : 256 < n
  · have hn' : (256 : Int) < (n : Int) := by omega
    have e := E.out
    rw [if_pos hn] at e
    subst e
    go_enter Tryz.func77, Tryz.ntmps77
    go_wp2
    go_ret
    exact ⟨rfl, Below.refl _ _⟩
  have hn' : ¬ (256 : Int) < (n : Int) := by omega
  have E2 : Hid (res = firstC (fun j => chkRec (item j)) n) := by have e := E.out; rw [if_neg hn] at e; exact e
  clear E
  go_enter Tryz.func77, Tryz.ntmps77
  go_wp2_with fail
  go_loopw [11] (fun x wr => ∃ j : Nat, j ≤ n ∧ x = .int .i64 j ∧ Below w.heap.size w wr ∧ firstC (fun j => chkRec (item j)) j = 0) (fun x _ => n - (intOf x).toNat)
  case atStart => exact ⟨0, Nat.zero_le _, rfl, Below.refl _ _, rfl⟩
  case round =>
    obtain ⟨j, hj, rfl, hbel, hz⟩ := hrel
    have HZ := hid hz
    clear hz
    by_cases hlt : j < n
    · have hlt' : (j : Int) < (n : Int) := by omega
      obtain ⟨bb, o, hp, hSb, hbl, hat⟩ := HIn.out.at_ (show 0 < n by omega)
      simp only at hp
      subst hp
      have hca : ∀ r u, (elRec.cells (item j))[r]? = some u → wr.cell? ⟨bb, o + j * 6 + r, none⟩ = some u := fun r u hu => (World.cell?_of_block (a := ⟨bb, o + j * 6 + r, none⟩) (hbel.block bb hbl)).trans (hat j hlt r u hu)
      have d0 := hca 0 _ rfl
      have d1 := hca 1 _ rfl
      have d2 := hca 2 _ rfl
      have d3 := hca 3 _ rfl
      have d4 := hca 4 _ rfl
      have d5 := hca 5 _ rfl
      simp only [Nat.add_zero] at d0
      have ha : Below wr.heap.size wr (wr.alloc (.cells #[.string (item j).key, .int .i64 (item j).v.kind, .int .i64 (item j).v.int, .string (item j).v.text, .slice (item j).v.p (item j).v.n (item j).v.c, .slice (item j).p (item j).n (item j).c] 27)) := (Below.refl _ _).alloc (Nat.le_refl _) _
      have hi : RT.In w S (item j) := HIn.out.each j hlt
      have HC := hid (checkRecord_any (item j) _ S ((hi.kept hbel.size fun b _ hl => hbel.block b hl).below ha) (fun b hb => by have := HS.out b hb; have := hbel.size; have := ha.size; omega))
      have HB := hid (hbel.trans (ha.mono hbel.size))
      have hws := hbel.size
      obtain ⟨k, hk⟩ : ∃ k, k = chkRec (item j) := ⟨_, rfl⟩
      rw [← hk] at HC
      have HK := hid hk
      unfold RT.val at HC
      clear hat hca ha hi hbel hk
      go_wp2_with fail
      refine HC.out.mono ?_
      rintro e w2 ⟨rfl, hb2⟩
      have HB2 := hid (HB.out.trans (hb2.mono (by have := HB.out.size; simp; omega)))
      clear hb2 HC d0 d1 d2 d3 d4 d5
      cases hk0 : ((k : Int) == 0)
      · have hkn : k ≠ 0 := by simpa using hk0
        have HKn := hid hkn
        clear hkn
        go_wp2
        go_ret
        refine ⟨?_, HB2.out⟩
        rw [E2.out, firstC_hit HZ.out hlt (by show chkRec (item j) ≠ 0; rw [← HK.out]; exact HKn.out), HK.out]
        rfl
      · have hkz : k = 0 := by simpa using hk0
        have HZ2 : Hid (firstC (fun j => chkRec (item j)) (j + 1) = 0) := by
          show firstC (fun j => chkRec (item j)) (j + 1) = 0
          rw [firstC_succ HZ.out, ← HK.out, hkz]
        clear hkz
        go_wp2
        go_roundw
        case rel => exact ⟨j + 1, by omega, by go_num, HB2.out, HZ2.out⟩
        case measure => simp [intOf]; omega
    · obtain rfl : j = n := by omega
      have hlt' : ¬ (j : Int) < (j : Int) := by omega
      have HF := hid hbel
      clear hbel
      go_wp2
      go_ret
      refine ⟨?_, HF.out⟩
      rw [E2.out, HZ.out]
      rfl
/-- what is wrong with key j of those that go -/
def chkGo (f : Nat → ByteArray) (j : Nat) : Nat := if 12 < (f j).size then 24 else if 0 < j ∧ Op.bytesLess (f (j - 1)).toList (f j).toList = false then 42 else 0
def chkGone (l : LT ByteArray) : Nat := if 64 < l.n then 43 else firstC (chkGo l.item) l.n
set_option maxHeartbeats 4000000 in
theorem ckGone_gen (l : LT ByteArray) (w : World) (S : Nat → Prop) (hin : LT.In elStr w S l) : Calls Tryz.prog 103 #[.slice l.p l.n l.c] w fun x w' => errPost (chkGone l) w x w' := by
  have E : Hid (chkGone l = if 64 < l.n then 43 else firstC (chkGo l.item) l.n) := rfl
  generalize chkGone l = res at *
  have HIn := hid hin
  obtain ⟨p, n, c, item⟩ := l
  simp only at *
  clear hin
  by_cases hn : 64 < n
  · have hn' : (64 : Int) < (n : Int) := by omega
    have e := E.out
    rw [if_pos hn] at e
    subst e
    go_enter Tryz.func103, Tryz.ntmps103
    go_wp2
    go_ret
    exact ⟨rfl, Below.refl _ _⟩
  have hn' : ¬ (64 : Int) < (n : Int) := by omega
  have E2 : Hid (res = firstC (chkGo item) n) := by have e := E.out; rw [if_neg hn] at e; exact e
  clear E
  go_enter Tryz.func103, Tryz.ntmps103
  go_wp2_with fail
  go_loopw [10] (fun x wr => ∃ j : Nat, j ≤ n ∧ x = .int .i64 j ∧ wr = w ∧ firstC (chkGo item) j = 0) (fun x _ => n - (intOf x).toNat)
  case atStart => exact ⟨0, Nat.zero_le _, rfl, rfl, rfl⟩
  case round =>
    obtain ⟨j, hj, rfl, rfl, hz⟩ := hrel
    have HZ := hid hz
    clear hz
    by_cases hlt : j < n
    · have hlt' : (j : Int) < (n : Int) := by omega
      obtain ⟨bb, o, hp, hSb, hbl, hat⟩ := HIn.out.at_ (show 0 < n by omega)
      simp only at hp
      subst hp
      have d0 : wr.cell? ⟨bb, o + j, none⟩ = some (.string (item j)) := by simpa [elStr] using hat j hlt 0 _ rfl
      have HG : Hid (chkGo item j = if 12 < (item j).size then 24 else if 0 < j ∧ Op.bytesLess (item (j - 1)).toList (item j).toList = false then 42 else 0) := rfl
      by_cases hk : 12 < (item j).size
      · have hk12' : (12 : Int) < ((item j).size : Int) := by omega
        have e := HG.out
        rw [if_pos hk] at e
        have HR : Hid (res = 24) := by
          show res = 24
          rw [E2.out, firstC_hit HZ.out hlt (by rw [e]; decide), e]
        clear hat e
        go_wp2
        go_ret
        refine ⟨?_, Below.refl _ _⟩
        rw [HR.out]
        rfl
      · have hk12' : ¬ (12 : Int) < ((item j).size : Int) := by omega
        cases j with
        | zero =>
          simp only [Nat.add_zero] at d0
          have e := HG.out
          rw [if_neg hk, if_neg (fun h => absurd h.1 (by decide))] at e
          have HZ2 : Hid (firstC (chkGo item) (0 + 1) = 0) := by
            show firstC (chkGo item) (0 + 1) = 0
            rw [firstC_succ HZ.out, e]
          clear hat e
          go_wp2
          go_roundw
          case rel => exact ⟨0 + 1, by omega, rfl, trivial, HZ2.out⟩
          case measure => simp [intOf]; omega
        | succ i =>
          have d1 : wr.cell? ⟨bb, o + i, none⟩ = some (.string (item i)) := by simpa [elStr] using hat i (show i < n by omega) 0 _ rfl
          have e := HG.out
          rw [if_neg hk] at e
          simp only [Nat.add_sub_cancel] at e
          have h0 : (0 : Int) < ((i + 1 : Nat) : Int) := by omega
          have hi1 : ((i + 1 : Nat) : Int) - 1 = (i : Int) := by omega
          have hle := le_not_lt (item (i + 1)).toList (item i).toList
          cases hb : Op.bytesLess (item i).toList (item (i + 1)).toList
          · rw [if_pos ⟨by omega, hb⟩] at e
            rw [hb] at hle
            have hle' : (Op.bytesLess (item (i + 1)).toList (item i).toList || (item (i + 1)).toList == (item i).toList) = true := hle
            have HR : Hid (res = 42) := by
              show res = 42
              rw [E2.out, firstC_hit HZ.out hlt (by rw [e]; decide), e]
            clear hat e hle hb
            go_wp2
            go_ret
            refine ⟨?_, Below.refl _ _⟩
            rw [HR.out]
            rfl
          · rw [if_neg (fun h => by rw [hb] at h; exact absurd h.2 (by decide))] at e
            rw [hb] at hle
            have hle' : (Op.bytesLess (item (i + 1)).toList (item i).toList || (item (i + 1)).toList == (item i).toList) = false := hle
            have HZ2 : Hid (firstC (chkGo item) (i + 1 + 1) = 0) := by
              show firstC (chkGo item) (i + 1 + 1) = 0
              rw [firstC_succ HZ.out, e]
            clear hat e hle hb
            go_wp2
            go_roundw
            case rel => exact ⟨i + 1 + 1, by omega, by go_num, trivial, HZ2.out⟩
            case measure => simp [intOf]; omega
    · obtain rfl : j = n := by omega
      have hlt' : ¬ (j : Int) < (j : Int) := by omega
      go_wp2
      go_ret
      refine ⟨?_, Below.refl _ _⟩
      rw [E2.out, HZ.out]
      rfl
/-- an output log's entry, its number any -/
structure OI where
  num : Int
  rec_ : RT
def OI.val (o : OI) : Value := .agg #[.int .i64 o.num, .string o.rec_.key, .int .i64 o.rec_.v.kind, .int .i64 o.rec_.v.int, .string o.rec_.v.text, .slice o.rec_.v.p o.rec_.v.n o.rec_.v.c, .slice o.rec_.p o.rec_.n o.rec_.c]
def chkOut (o : OI) : Nat := if 0 ≤ o.num ∧ o.num ≤ 1073741824 then chkRec o.rec_ else 43
set_option maxHeartbeats 4000000 in
theorem ckRow_gen (o : OI) (w : World) (S : Nat → Prop) (hin : RT.In w S o.rec_) (hS : ∀ b, S b → b < w.heap.size) : Calls Tryz.prog 49 #[o.val] w fun x w' => errPost (chkOut o) w x w' := by
  have ha : Below w.heap.size w (w.alloc (.cells #[.int .i64 o.num, .string o.rec_.key, .int .i64 o.rec_.v.kind, .int .i64 o.rec_.v.int, .string o.rec_.v.text, .slice o.rec_.v.p o.rec_.v.n o.rec_.v.c, .slice o.rec_.p o.rec_.n o.rec_.c] 43)) := (Below.refl _ _).alloc (Nat.le_refl _) _
  have HC := hid (checkRecord_any o.rec_ _ S (hin.below ha) (fun b hb => by have := hS b hb; have := ha.size; omega))
  have HA := hid ha
  unfold OI.val
  unfold RT.val at HC
  unfold chkOut
  clear hin hS ha
  by_cases hn : 0 ≤ o.num ∧ o.num ≤ 1073741824
  · have HW := fun W => within_yes o.num 1073741824 hn.1 hn.2 W
    rw [if_pos hn]
    clear hn
    go_enter Tryz.func49, Tryz.ntmps49
    go_wp2_with fail
    refine (HW _).mono ?_
    rintro x w1 ⟨rfl, rfl⟩
    go_wp2_with fail
    refine HC.out.mono ?_
    rintro x w2 ⟨rfl, hb2⟩
    have HB := hid (HA.out.trans (hb2.mono HA.out.size))
    clear hb2 HC
    go_wp2
    go_ret
    exact ⟨rfl, HB.out⟩
  · have HW := fun W => within_no o.num 1073741824 hn W
    rw [if_neg hn]
    clear hn HC
    go_enter Tryz.func49, Tryz.ntmps49
    go_wp2_with fail
    refine (HW _).mono ?_
    rintro x w1 ⟨rfl, rfl⟩
    go_wp2
    go_ret
    exact ⟨rfl, HA.out⟩
end Go.Proofs.YtfonicphdejdlaaGreat

namespace Go.Proofs.YtfonicphdejdlaaGreat
open Go.RowKit
set_option maxRecDepth 8000

/-- a row of a manifest in a list, its size any -/
def elRowI : El (Int × Nat) where
  ty := 126
  size := 2
  cells := fun x => [.int .i64 x.1, .int .u32 (x.2 : Int)]
  len := fun _ => rfl
  one := fun x u hu => by
    simp only [List.mem_cons, List.not_mem_nil, or_false] at hu
    rcases hu with rfl | rfl <;> rfl
  In := fun _ _ x => (-9223372036854775808 ≤ x.1 ∧ x.1 ≤ 9223372036854775807) ∧ x.2 < 4294967296
  kept := fun h _ _ => h
  mono := fun h _ => h
structure MI where
  id : Int
  sum : Nat
  rows : LT (Int × Nat)
def MI.val (m : MI) : Value := .agg #[.int .i64 m.id, .int .u32 (m.sum : Int), .slice m.rows.p m.rows.n m.rows.c]
def chkSize (x : Int × Nat) : Nat := if 0 ≤ x.1 ∧ x.1 ≤ 65536 then 0 else 43
def chkMan (m : MI) : Nat := if 0 ≤ m.id ∧ m.id ≤ 9999 then (if 12 < m.rows.n then 43 else firstC (fun j => chkSize (m.rows.item j)) m.rows.n) else 43
set_option maxHeartbeats 4000000 in
theorem ckMan_gen (m : MI) (w : World) (S : Nat → Prop) (hin : LT.In elRowI w S m.rows) : Calls Tryz.prog 46 #[m.val] w fun x w' => errPost (chkMan m) w x w' := by
  have E : Hid (chkMan m = if 0 ≤ m.id ∧ m.id ≤ 9999 then (if 12 < m.rows.n then 43 else firstC (fun j => chkSize (m.rows.item j)) m.rows.n) else 43) := rfl
  have hbx := Box.new w #[.int .i64 m.id, .int .u32 (m.sum : Int), .slice m.rows.p m.rows.n m.rows.c] 41
  have c0 := hbx.cell 0
  have c1 := hbx.cell 1
  have c2 := hbx.cell 2
  simp only [List.getElem?_toArray, List.getElem?_cons_zero, List.getElem?_cons_succ] at c0 c1 c2
  have ha : Below w.heap.size w (w.alloc (.cells #[.int .i64 m.id, .int .u32 (m.sum : Int), .slice m.rows.p m.rows.n m.rows.c] 41)) := (Below.refl _ _).alloc (Nat.le_refl _) _
  have HIn := hid hin
  have HA := hid ha
  generalize chkMan m = res at *
  unfold MI.val
  obtain ⟨id, sum, ⟨p, n, c, item⟩⟩ := m
  simp only at *
  clear hin ha hbx
  by_cases hid_ : 0 ≤ id ∧ id ≤ 9999
  case neg =>
    have HW := fun W => within_no id 9999 hid_ W
    have HR : Hid (res = 43) := by have e := E.out; rw [if_neg hid_] at e; exact e
    clear hid_ E
    go_enter Tryz.func46, Tryz.ntmps46
    go_wp2_with fail
    refine (HW _).mono ?_
    rintro x w1 ⟨rfl, hw1⟩
    subst w1
    go_wp2
    go_ret
    exact ⟨by rw [HR.out]; rfl, HA.out⟩
  have HW := fun W => within_yes id 9999 hid_.1 hid_.2 W
  have E2 : Hid (res = if 12 < n then 43 else firstC (fun j => chkSize (item j)) n) := by have e := E.out; rw [if_pos hid_] at e; exact e
  clear hid_ E
  by_cases hn : 12 < n
  case pos =>
    have hn' : (12 : Int) < (n : Int) := by omega
    have HR : Hid (res = 43) := by have e := E2.out; rw [if_pos hn] at e; exact e
    clear E2
    go_enter Tryz.func46, Tryz.ntmps46
    go_wp2_with fail
    refine (HW _).mono ?_
    rintro x w1 ⟨rfl, hw1⟩
    subst w1
    go_wp2
    go_ret
    exact ⟨by rw [HR.out]; rfl, HA.out⟩
  have hn' : ¬ (12 : Int) < (n : Int) := by omega
  have E3 : Hid (res = firstC (fun j => chkSize (item j)) n) := by have e := E2.out; rw [if_neg hn] at e; exact e
  clear E2
  go_enter Tryz.func46, Tryz.ntmps46
  go_wp2_with fail
  refine (HW _).mono ?_
  rintro x w1 ⟨rfl, hw1⟩
  subst w1
  go_wp2_with fail
  go_loopw [18] (fun x wr => ∃ j : Nat, j ≤ n ∧ x = .int .i64 j ∧ Below w.heap.size w wr ∧ firstC (fun j => chkSize (item j)) j = 0) (fun x _ => n - (intOf x).toNat)
  case atStart => exact ⟨0, Nat.zero_le _, rfl, HA.out, rfl⟩
  case round =>
    obtain ⟨j, hj, rfl, hbel, hz⟩ := hrel
    have HZ := hid hz
    clear hz
    by_cases hlt : j < n
    · have hlt' : (j : Int) < (n : Int) := by omega
      obtain ⟨bb, o, hp, hSb, hbl, hat⟩ := HIn.out.at_ (show 0 < n by omega)
      simp only at hp
      subst hp
      have hca : ∀ r u, (elRowI.cells (item j))[r]? = some u → wr.cell? ⟨bb, o + j * 2 + r, none⟩ = some u := fun r u hu => (World.cell?_of_block (a := ⟨bb, o + j * 2 + r, none⟩) (hbel.block bb hbl)).trans (hat j hlt r u hu)
      have d0 := hca 0 _ rfl
      have d1 := hca 1 _ rfl
      simp only [Nat.add_zero] at d0
      have ha : Below wr.heap.size wr (wr.alloc (.cells #[.int .i64 (item j).1, .int .u32 ((item j).2 : Int)] 126)) := (Below.refl _ _).alloc (Nat.le_refl _) _
      have HB := hid (hbel.trans (ha.mono hbel.size))
      clear hat hca ha hbel
      by_cases hs : 0 ≤ (item j).1 ∧ (item j).1 ≤ 65536
      · have HW2 := fun W => within_yes (item j).1 65536 hs.1 hs.2 W
        have HZ2 : Hid (firstC (fun j => chkSize (item j)) (j + 1) = 0) := by
          show firstC (fun j => chkSize (item j)) (j + 1) = 0
          rw [firstC_succ HZ.out]
          exact if_pos hs
        clear hs
        go_wp2_with fail
        refine (HW2 _).mono ?_
        rintro e w2 ⟨rfl, hw2⟩
        subst w2
        clear HW2 d0 d1
        go_wp2
        go_roundw
        case rel => exact ⟨j + 1, by omega, by go_num, HB.out, HZ2.out⟩
        case measure => simp [intOf]; omega
      · have HW2 := fun W => within_no (item j).1 65536 hs W
        have HR : Hid (res = 43) := by
          show res = 43
          have e : chkSize (item j) = 43 := if_neg hs
          rw [E3.out, firstC_hit HZ.out hlt (by show chkSize (item j) ≠ 0; rw [e]; decide), e]
        clear hs
        go_wp2_with fail
        refine (HW2 _).mono ?_
        rintro e w2 ⟨rfl, hw2⟩
        subst w2
        clear HW2 d0 d1
        go_wp2
        go_ret
        exact ⟨by rw [HR.out]; rfl, HB.out⟩
    · obtain rfl : j = n := by omega
      have hlt' : ¬ (j : Int) < (j : Int) := by omega
      have HF := hid hbel
      clear hbel
      go_wp2
      go_ret
      exact ⟨by rw [E3.out, HZ.out]; rfl, HF.out⟩
/-- a segment, its numbers any -/
structure GI where
  id : Int
  task : Int
  base : Int
  sum : Nat
  st : ST
  dnum : Int
  set : LT VT
  gone : LT ByteArray
  logs : LT (LT RT)
  pend : LT RT
def GI.val (g : GI) : Value := .agg #[.int .i64 g.id, .int .i64 g.task, .int .i64 g.base, .int .u32 (g.sum : Int), .int .i64 g.st.num, .slice g.st.p g.st.n g.st.c, .int .i64 g.dnum, .slice g.set.p g.set.n g.set.c, .slice g.gone.p g.gone.n g.gone.c, .slice g.logs.p g.logs.n g.logs.c, .slice g.pend.p g.pend.n g.pend.c]
/-- does it hold what its bytes would leave out? -/
def other (g : GI) : Bool := if g.base = 0 then ((g.sum : Int) != 0) || ((g.dnum != 0) || (decide (0 < g.set.n) || decide (0 < g.gone.n))) else (g.st.num != 0) || decide (0 < g.st.n)
set_option maxHeartbeats 4000000 in
theorem hoks_gen (g : GI) (w : World) : Calls Tryz.prog 75 #[g.val] w fun x w' => x = .returned (.bool (other g)) ∧ Below w.heap.size w w' := by
  obtain ⟨res, hres⟩ : ∃ res, res = other g := ⟨_, rfl⟩
  rw [← hres]
  have E := hid hres
  have hbx := Box.new w #[.int .i64 g.id, .int .i64 g.task, .int .i64 g.base, .int .u32 (g.sum : Int), .int .i64 g.st.num, .slice g.st.p g.st.n g.st.c, .int .i64 g.dnum, .slice g.set.p g.set.n g.set.c, .slice g.gone.p g.gone.n g.gone.c, .slice g.logs.p g.logs.n g.logs.c, .slice g.pend.p g.pend.n g.pend.c] 38
  have c0 := hbx.cell 0
  have c1 := hbx.cell 1
  have c2 := hbx.cell 2
  have c3 := hbx.cell 3
  have c4 := hbx.cell 4
  have c5 := hbx.cell 5
  have c6 := hbx.cell 6
  have c7 := hbx.cell 7
  have c8 := hbx.cell 8
  have c9 := hbx.cell 9
  have c10 := hbx.cell 10
  simp only [List.getElem?_toArray, List.getElem?_cons_zero, List.getElem?_cons_succ] at c0 c1 c2 c3 c4 c5 c6 c7 c8 c9 c10
  unfold GI.val
  clear hbx hres
  cases hz : (g.base == 0)
  · have hb : g.base ≠ 0 := by simpa using hz
    cases h1 : (g.st.num != 0)
    · by_cases h2 : 0 < g.st.n
      · have h2' : (0 : Int) < (g.st.n : Int) := by omega
        have HR : Hid (res = true) := by have e := E.out; unfold other at e; simp only [hb, h1, h2, if_false, Bool.or_true, decide_true] at e; exact e
        clear E hb
        go_enter Tryz.func75, Tryz.ntmps75
        go_wp2
        go_ret
        exact ⟨by rw [HR.out]; rfl, (Below.refl _ _).alloc (Nat.le_refl _) _⟩
      · have h2' : ¬ (0 : Int) < (g.st.n : Int) := by omega
        have HR : Hid (res = false) := by have e := E.out; unfold other at e; simp only [hb, h1, h2, if_false, Bool.or_false, decide_false] at e; exact e
        clear E hb
        go_enter Tryz.func75, Tryz.ntmps75
        go_wp2
        go_ret
        exact ⟨by rw [HR.out]; rfl, (Below.refl _ _).alloc (Nat.le_refl _) _⟩
    · skip
      have HR : Hid (res = true) := by have e := E.out; unfold other at e; simp only [hb, h1, if_false, Bool.true_or] at e; exact e
      clear E hb
      go_enter Tryz.func75, Tryz.ntmps75
      go_wp2
      go_ret
      exact ⟨by rw [HR.out]; rfl, (Below.refl _ _).alloc (Nat.le_refl _) _⟩
  · have hb : g.base = 0 := by simpa using hz
    cases h1 : ((g.sum : Int) != 0)
    · cases h2 : (g.dnum != 0)
      · by_cases h3 : 0 < g.set.n
        · have h3' : (0 : Int) < (g.set.n : Int) := by omega
          have HR : Hid (res = true) := by have e := E.out; unfold other at e; simp only [hb, h1, h2, h3, if_true, Bool.true_or, Bool.or_true, decide_true] at e; exact e
          clear E hb
          go_enter Tryz.func75, Tryz.ntmps75
          go_wp2
          go_ret
          exact ⟨by rw [HR.out]; rfl, (Below.refl _ _).alloc (Nat.le_refl _) _⟩
        · have h3' : ¬ (0 : Int) < (g.set.n : Int) := by omega
          by_cases h4 : 0 < g.gone.n
          · have h4' : (0 : Int) < (g.gone.n : Int) := by omega
            have HR : Hid (res = true) := by have e := E.out; unfold other at e; simp only [hb, h1, h2, h3, h4, if_true, Bool.or_true, decide_true, decide_false] at e; exact e
            clear E hb
            go_enter Tryz.func75, Tryz.ntmps75
            go_wp2
            go_ret
            exact ⟨by rw [HR.out]; rfl, (Below.refl _ _).alloc (Nat.le_refl _) _⟩
          · have h4' : ¬ (0 : Int) < (g.gone.n : Int) := by omega
            have HR : Hid (res = false) := by have e := E.out; unfold other at e; simp only [hb, h1, h2, h3, h4, if_true, Bool.or_false, decide_false] at e; exact e
            clear E hb
            go_enter Tryz.func75, Tryz.ntmps75
            go_wp2
            go_ret
            exact ⟨by rw [HR.out]; rfl, (Below.refl _ _).alloc (Nat.le_refl _) _⟩
      · skip
        have HR : Hid (res = true) := by have e := E.out; unfold other at e; simp only [hb, h1, h2, if_true, Bool.true_or, Bool.or_true] at e; exact e
        clear E hb
        go_enter Tryz.func75, Tryz.ntmps75
        go_wp2
        go_ret
        exact ⟨by rw [HR.out]; rfl, (Below.refl _ _).alloc (Nat.le_refl _) _⟩
    · skip
      have HR : Hid (res = true) := by have e := E.out; unfold other at e; simp only [hb, h1, if_true, Bool.true_or] at e; exact e
      clear E hb
      go_enter Tryz.func75, Tryz.ntmps75
      go_wp2
      go_ret
      exact ⟨by rw [HR.out]; rfl, (Below.refl _ _).alloc (Nat.le_refl _) _⟩
end Go.Proofs.YtfonicphdejdlaaGreat

namespace Go.Proofs.YtfonicphdejdlaaGreat
open Go.RowKit
set_option maxRecDepth 8000

structure GI.In (w : World) (S : Nat → Prop) (g : GI) : Prop where
  sum : g.sum < 4294967296
  id0 : -9223372036854775808 ≤ g.id
  id1 : g.id ≤ 9223372036854775807
  task0 : -9223372036854775808 ≤ g.task
  task1 : g.task ≤ 9223372036854775807
  base0 : -9223372036854775808 ≤ g.base
  base1 : g.base ≤ 9223372036854775807
  st : ST.In2 w S g.st
  dnum0 : -9223372036854775808 ≤ g.dnum
  dnum1 : g.dnum ≤ 9223372036854775807
  set : LT.In elCell w S g.set
  gone : LT.In elStr w S g.gone
  logs : LT.In elRecs w S g.logs
  pend : LT.In elRec w S g.pend
theorem GI.In.below {w w' : World} {S : Nat → Prop} {g : GI} (h : GI.In w S g) (hb : Below w.heap.size w w') : GI.In w' S g :=
  ⟨h.sum, h.id0, h.id1, h.task0, h.task1, h.base0, h.base1, h.st.below hb, h.dnum0, h.dnum1, h.set.below hb, h.gone.below hb, h.logs.below hb, h.pend.below hb⟩
theorem ST.ofLTi {w : World} {S : Nat → Prop} {l : LT VT} {n : Int} (h : LT.In elCell w S l) (h0 : -9223372036854775808 ≤ n) (h1 : n ≤ 9223372036854775807) : ST.In w S ⟨n, l.p, l.n, l.c, l.item⟩ := by
  have h2 := ST.ofLT (n := 0) h (by decide)
  exact ⟨h2.at_, h2.each, h2.nc, h2.nn, h2.cc, h0, h1⟩
def GI.dst (g : GI) : ST := ⟨g.dnum, g.set.p, g.set.n, g.set.c, g.set.item⟩
def chkKept (g : GI) : Nat := if g.base = 0 then chkState g.st else if chkState g.dst = 0 then chkGone g.gone else chkState g.dst
set_option maxHeartbeats 4000000 in
theorem ckKept_gen (g : GI) (w : World) (S : Nat → Prop) (hin : GI.In w S g) (hS : ∀ b, S b → b < w.heap.size) : Calls Tryz.prog 76 #[g.val] w fun x w' => errPost (chkKept g) w x w' := by
  have E : Hid (chkKept g = if g.base = 0 then chkState g.st else if chkState g.dst = 0 then chkGone g.gone else chkState g.dst) := rfl
  generalize chkKept g = res at *
  have hbx := Box.new w #[.int .i64 g.id, .int .i64 g.task, .int .i64 g.base, .int .u32 (g.sum : Int), .int .i64 g.st.num, .slice g.st.p g.st.n g.st.c, .int .i64 g.dnum, .slice g.set.p g.set.n g.set.c, .slice g.gone.p g.gone.n g.gone.c, .slice g.logs.p g.logs.n g.logs.c, .slice g.pend.p g.pend.n g.pend.c] 38
  have c0 := hbx.cell 0
  have c1 := hbx.cell 1
  have c2 := hbx.cell 2
  have c3 := hbx.cell 3
  have c4 := hbx.cell 4
  have c5 := hbx.cell 5
  have c6 := hbx.cell 6
  have c7 := hbx.cell 7
  have c8 := hbx.cell 8
  have c9 := hbx.cell 9
  have c10 := hbx.cell 10
  simp only [List.getElem?_toArray, List.getElem?_cons_zero, List.getElem?_cons_succ] at c0 c1 c2 c3 c4 c5 c6 c7 c8 c9 c10
  have ha : Below w.heap.size w (w.alloc (.cells #[.int .i64 g.id, .int .i64 g.task, .int .i64 g.base, .int .u32 (g.sum : Int), .int .i64 g.st.num, .slice g.st.p g.st.n g.st.c, .int .i64 g.dnum, .slice g.set.p g.set.n g.set.c, .slice g.gone.p g.gone.n g.gone.c, .slice g.logs.p g.logs.n g.logs.c, .slice g.pend.p g.pend.n g.pend.c] 38)) := (Below.refl _ _).alloc (Nat.le_refl _) _
  have hin2 := hin.below ha
  have hS2 : ∀ b, S b → b < (w.alloc (.cells #[.int .i64 g.id, .int .i64 g.task, .int .i64 g.base, .int .u32 (g.sum : Int), .int .i64 g.st.num, .slice g.st.p g.st.n g.st.c, .int .i64 g.dnum, .slice g.set.p g.set.n g.set.c, .slice g.gone.p g.gone.n g.gone.c, .slice g.logs.p g.logs.n g.logs.c, .slice g.pend.p g.pend.n g.pend.c] 38)).heap.size := fun b hb => by have := hS b hb; have := ha.size; omega
  have HA := hid ha
  have HBx := hid hbx
  unfold GI.val
  cases hz : (g.base == 0)
  · have hne : g.base ≠ 0 := by simpa using hz
    have E2 : Hid (res = if chkState g.dst = 0 then chkGone g.gone else chkState g.dst) := by have e := E.out; rw [if_neg hne] at e; exact e
    have HC := hid (checkState_any g.dst _ S (ST.ofLTi hin2.set hin2.dnum0 hin2.dnum1) hS2)
    have HG : Hid (∀ W, Below (w.alloc (.cells #[.int .i64 g.id, .int .i64 g.task, .int .i64 g.base, .int .u32 (g.sum : Int), .int .i64 g.st.num, .slice g.st.p g.st.n g.st.c, .int .i64 g.dnum, .slice g.set.p g.set.n g.set.c, .slice g.gone.p g.gone.n g.gone.c, .slice g.logs.p g.logs.n g.logs.c, .slice g.pend.p g.pend.n g.pend.c] 38)).heap.size (w.alloc (.cells #[.int .i64 g.id, .int .i64 g.task, .int .i64 g.base, .int .u32 (g.sum : Int), .int .i64 g.st.num, .slice g.st.p g.st.n g.st.c, .int .i64 g.dnum, .slice g.set.p g.set.n g.set.c, .slice g.gone.p g.gone.n g.gone.c, .slice g.logs.p g.logs.n g.logs.c, .slice g.pend.p g.pend.n g.pend.c] 38)) W → Calls Tryz.prog 103 #[.slice g.gone.p g.gone.n g.gone.c] W fun x w' => errPost (chkGone g.gone) W x w') := fun W hW => ckGone_gen g.gone W S (hin2.gone.below hW)
    obtain ⟨k, hk⟩ : ∃ k, k = chkState g.dst := ⟨_, rfl⟩
    obtain ⟨q, hq⟩ : ∃ q, q = chkGone g.gone := ⟨_, rfl⟩
    rw [← hk] at HC E2
    rw [← hq] at HG E2
    unfold ST.val at HC
    simp only [GI.dst] at HC
    clear hin hin2 hS hS2 ha hbx hne E hk hq
    cases hk0 : ((k : Int) != 0)
    · have HR : Hid (res = q) := by have e := E2.out; rw [if_pos (by simpa using hk0)] at e; exact e
      clear E2
      go_enter Tryz.func76, Tryz.ntmps76
      go_wp2_with fail
      refine HC.out.mono ?_
      rintro x w1 ⟨rfl, hb1⟩
      have HB1 := hid hb1
      have hbx1 := HBx.out.below hb1
      have y8 := hbx1.cell 8
      simp only [List.getElem?_toArray, List.getElem?_cons_zero, List.getElem?_cons_succ] at y8
      clear hb1 HC hbx1
      go_wp2_with fail
      refine (HG.out _ HB1.out).mono ?_
      rintro x w2 ⟨rfl, hb2⟩
      have HB2 := hid ((HA.out.trans (HB1.out.mono HA.out.size)).trans (hb2.mono (by have := HB1.out.size; have := HA.out.size; omega)))
      clear hb2 HG
      go_wp2
      go_ret
      exact ⟨by rw [HR.out]; rfl, HB2.out⟩
    · have HR : Hid (res = k) := by have e := E2.out; rw [if_neg (by simpa using hk0)] at e; exact e
      clear E2
      go_enter Tryz.func76, Tryz.ntmps76
      go_wp2_with fail
      refine HC.out.mono ?_
      rintro x w1 ⟨rfl, hb1⟩
      have HB1 := hid (HA.out.trans (hb1.mono HA.out.size))
      clear hb1 HC
      go_wp2
      go_ret
      exact ⟨by rw [HR.out]; rfl, HB1.out⟩
  · have heq : g.base = 0 := by simpa using hz
    have HR : Hid (res = chkState g.st) := by have e := E.out; rw [if_pos heq] at e; exact e
    have HC := hid (checkState_any g.st _ S hin2.st.i hS2)
    unfold ST.val at HC
    clear hin hin2 hS hS2 ha hbx heq E
    go_enter Tryz.func76, Tryz.ntmps76
    go_wp2_with fail
    refine HC.out.mono ?_
    rintro x w1 ⟨rfl, hb1⟩
    have HB1 := hid (HA.out.trans (hb1.mono HA.out.size))
    clear hb1 HC
    go_wp2
    go_ret
    exact ⟨by rw [HR.out]; rfl, HB1.out⟩
def bnd (g : GI) : Prop := (0 ≤ g.id ∧ g.id ≤ 9999) ∧ (0 ≤ g.task ∧ g.task ≤ 11) ∧ (0 ≤ g.base ∧ g.base ≤ 9999)
instance (g : GI) : Decidable (bnd g) := by unfold bnd; exact inferInstance
def chkLogs (g : GI) : Nat := if 4 < g.logs.n then 43 else firstC (fun j => chkRecs (g.logs.item j)) g.logs.n
def chkSeg (g : GI) : Nat := if bnd g then (if other g = true then 41 else if chkKept g = 0 then (if chkLogs g = 0 then chkRecs g.pend else chkLogs g) else chkKept g) else 43
set_option maxHeartbeats 4000000 in
theorem ckSeg_bound (g : GI) (w : World) (h : ¬ bnd g) : Calls Tryz.prog 43 #[g.val] w fun x w' => errPost 43 w x w' := by
  have hbx := Box.new w #[.int .i64 g.id, .int .i64 g.task, .int .i64 g.base, .int .u32 (g.sum : Int), .int .i64 g.st.num, .slice g.st.p g.st.n g.st.c, .int .i64 g.dnum, .slice g.set.p g.set.n g.set.c, .slice g.gone.p g.gone.n g.gone.c, .slice g.logs.p g.logs.n g.logs.c, .slice g.pend.p g.pend.n g.pend.c] 38
  have c0 := hbx.cell 0
  have c1 := hbx.cell 1
  have c2 := hbx.cell 2
  have c3 := hbx.cell 3
  have c4 := hbx.cell 4
  have c5 := hbx.cell 5
  have c6 := hbx.cell 6
  have c7 := hbx.cell 7
  have c8 := hbx.cell 8
  have c9 := hbx.cell 9
  have c10 := hbx.cell 10
  simp only [List.getElem?_toArray, List.getElem?_cons_zero, List.getElem?_cons_succ] at c0 c1 c2 c3 c4 c5 c6 c7 c8 c9 c10
  have ha : Below w.heap.size w (w.alloc (.cells #[.int .i64 g.id, .int .i64 g.task, .int .i64 g.base, .int .u32 (g.sum : Int), .int .i64 g.st.num, .slice g.st.p g.st.n g.st.c, .int .i64 g.dnum, .slice g.set.p g.set.n g.set.c, .slice g.gone.p g.gone.n g.gone.c, .slice g.logs.p g.logs.n g.logs.c, .slice g.pend.p g.pend.n g.pend.c] 38)) := (Below.refl _ _).alloc (Nat.le_refl _) _
  have HA := hid ha
  unfold GI.val
  clear hbx ha
  by_cases h1 : 0 ≤ g.id ∧ g.id ≤ 9999
  · by_cases h2 : 0 ≤ g.task ∧ g.task ≤ 11
    · have h3 : ¬ (0 ≤ g.base ∧ g.base ≤ 9999) := fun h3 => h ⟨h1, h2, h3⟩
      have HW1 := fun W => within_yes g.id 9999 h1.1 h1.2 W
      have HW2 := fun W => within_yes g.task 11 h2.1 h2.2 W
      have HW3 := fun W => within_no g.base 9999 h3 W
      clear h1 h2 h3 h
      go_enter Tryz.func43, Tryz.ntmps43
      go_wp2_with fail
      refine (HW1 _).mono ?_
      rintro x w1 ⟨rfl, hw1⟩
      subst w1
      go_wp2_with fail
      refine (HW2 _).mono ?_
      rintro x w1 ⟨rfl, hw1⟩
      subst w1
      go_wp2_with fail
      refine (HW3 _).mono ?_
      rintro x w1 ⟨rfl, hw1⟩
      subst w1
      go_wp2
      go_ret
      exact ⟨rfl, HA.out⟩
    · have HW1 := fun W => within_yes g.id 9999 h1.1 h1.2 W
      have HW2 := fun W => within_no g.task 11 h2 W
      clear h1 h2 h
      go_enter Tryz.func43, Tryz.ntmps43
      go_wp2_with fail
      refine (HW1 _).mono ?_
      rintro x w1 ⟨rfl, hw1⟩
      subst w1
      go_wp2_with fail
      refine (HW2 _).mono ?_
      rintro x w1 ⟨rfl, hw1⟩
      subst w1
      go_wp2
      go_ret
      exact ⟨rfl, HA.out⟩
  · have HW1 := fun W => within_no g.id 9999 h1 W
    clear h1 h
    go_enter Tryz.func43, Tryz.ntmps43
    go_wp2_with fail
    refine (HW1 _).mono ?_
    rintro x w1 ⟨rfl, hw1⟩
    subst w1
    go_wp2
    go_ret
    exact ⟨rfl, HA.out⟩
end Go.Proofs.YtfonicphdejdlaaGreat

namespace Go.Proofs.YtfonicphdejdlaaGreat
open Go.RowKit
set_option maxRecDepth 8000
theorem z_ne {i k : Int} (h : i ≠ k) : (i != k) = true := by rw [bne_iff_ne]; exact h
/-- manifests' rows -/
def RowsAlike (l u : LT (Int × Nat)) : Prop := u.n = l.n ∧ ∀ j, j < l.n → u.item j = l.item j
structure MnAlike (m k : MI) : Prop where
  id : k.id = m.id
  sum : k.sum = m.sum
  rows : RowsAlike m.rows k.rows
set_option maxHeartbeats 8000000 in
theorem yManifest (m k : MI) (w : World) (S R : Nat → Prop) (hm : LT.In elRowI w S m.rows) (hk : LT.In elRowI w R k.rows) :
    Calls Tryz.prog 31 #[m.val, k.val] w fun e w' => YesNo (MnAlike m k) e w w' := by
  have hb0 : Below w.heap.size w ((w.alloc (.cells #[.int .i64 m.id, .int .u32 (m.sum : Int), .slice m.rows.p m.rows.n m.rows.c] 41)).alloc (.cells #[.int .i64 k.id, .int .u32 (k.sum : Int), .slice k.rows.p k.rows.n k.rows.c] 41)) := ((Below.refl _ _).alloc (Nat.le_refl _) _).alloc (by simp) _
  have hx0 := (Box.new w #[.int .i64 m.id, .int .u32 (m.sum : Int), .slice m.rows.p m.rows.n m.rows.c] 41).below ((Below.refl _ _).alloc (Nat.le_refl _) (.cells #[.int .i64 k.id, .int .u32 (k.sum : Int), .slice k.rows.p k.rows.n k.rows.c] 41))
  have hy0 := Box.new (w.alloc (.cells #[.int .i64 m.id, .int .u32 (m.sum : Int), .slice m.rows.p m.rows.n m.rows.c] 41)) #[.int .i64 k.id, .int .u32 (k.sum : Int), .slice k.rows.p k.rows.n k.rows.c] 41
  rw [show (w.alloc (.cells #[.int .i64 m.id, .int .u32 (m.sum : Int), .slice m.rows.p m.rows.n m.rows.c] 41)).heap.size = w.heap.size + 1 by simp] at hy0
  have HX0 := hid hx0
  have HY0 := hid hy0
  have HB0 := hid hb0
  have hnn := hm.nn
  have H := hid hm
  have H' := hid hk
  unfold MI.val
  clear hx0 hy0 hb0 hm hk
  obtain ⟨id, sum, ⟨p, n, c, f⟩⟩ := m
  obtain ⟨id2, sum2, ⟨p2, n2, c2, f2⟩⟩ := k
  simp only at hnn H H' HX0 HY0 HB0 ⊢
  by_cases h1 : id = id2
  case neg =>
    have hne := z_ne h1
    have HN : Hid (¬ MnAlike ⟨id, sum, ⟨p, n, c, f⟩⟩ ⟨id2, sum2, ⟨p2, n2, c2, f2⟩⟩) := fun h => h1 h.id.symm
    clear h1
    go_enter Tryz.func31, Tryz.ntmps31
    go_wp2
    go_ret
    exact yn_no HN.out HB0.out
  subst h1
  by_cases h2 : sum = sum2
  case neg =>
    have hne := int_ne h2
    have HN : Hid (¬ MnAlike ⟨id, sum, ⟨p, n, c, f⟩⟩ ⟨id, sum2, ⟨p2, n2, c2, f2⟩⟩) := fun h => h2 h.sum.symm
    clear h2
    go_enter Tryz.func31, Tryz.ntmps31
    go_wp2
    go_ret
    exact yn_no HN.out HB0.out
  subst h2
  by_cases h3 : n = n2
  case neg =>
    have hne := int_ne h3
    have HN : Hid (¬ MnAlike ⟨id, sum, ⟨p, n, c, f⟩⟩ ⟨id, sum, ⟨p2, n2, c2, f2⟩⟩) := fun h => h3 h.rows.1.symm
    clear h3
    go_enter Tryz.func31, Tryz.ntmps31
    go_wp2
    go_ret
    exact yn_no HN.out HB0.out
  subst h3
  go_enter Tryz.func31, Tryz.ntmps31
  go_wp2_with fail
  go_loopw [5] (fun x wr => ∃ j : Nat, j ≤ n ∧ x = .int .i64 j ∧ (∀ q, q < j → f2 q = f q) ∧ Box wr w.heap.size #[.int .i64 id, .int .u32 (sum : Int), .slice p n c] 41 ∧ Box wr (w.heap.size + 1) #[.int .i64 id, .int .u32 (sum : Int), .slice p2 n c2] 41 ∧ Below w.heap.size w wr) (fun x _ => n - (intOf x).toNat)
  case atStart => exact ⟨0, Nat.zero_le _, rfl, fun q hq => absurd hq (by omega), HX0.out, HY0.out, HB0.out⟩
  case round =>
    obtain ⟨j, hj, rfl, hA, hB1, hB2, hbel⟩ := hrel
    have HA := hid hA
    have HB := hid hbel
    have HX1 := hid hB1
    have HY1 := hid hB2
    have x2 := hB1.cell 2
    have y2 := hB2.cell 2
    simp only [List.getElem?_toArray, List.getElem?_cons_zero, List.getElem?_cons_succ] at x2 y2
    clear hA hB1 hB2 HX0 HY0
    by_cases hlt : j < n
    · have hlt' : (j : Int) < (n : Int) := by omega
      obtain ⟨b1, o1, hp, _, hl1, ha⟩ := H.out.at_ (show 0 < n by omega)
      obtain ⟨b2, o2, hp', _, hl2, ha'⟩ := H'.out.at_ (show 0 < n by omega)
      simp only at hp hp'
      subst hp hp'
      have q0 := ha j hlt 0 _ rfl
      have q1 := ha j hlt 1 _ rfl
      have r0 := ha' j hlt 0 _ rfl
      have r1 := ha' j hlt 1 _ rfl
      simp only [elRowI, Nat.add_zero] at q0 q1 r0 r1
      have a0 := (World.cell?_of_block (a := ⟨b1, o1 + j * 2, none⟩) (hbel.block b1 hl1)).trans q0
      have a1 := (World.cell?_of_block (a := ⟨b1, o1 + j * 2 + 1, none⟩) (hbel.block b1 hl1)).trans q1
      have e0 := (World.cell?_of_block (a := ⟨b2, o2 + j * 2, none⟩) (hbel.block b2 hl2)).trans r0
      have e1 := (World.cell?_of_block (a := ⟨b2, o2 + j * 2 + 1, none⟩) (hbel.block b2 hl2)).trans r1
      clear ha ha' hbel q0 q1 r0 r1
      obtain ⟨s, t, hf⟩ : ∃ s t, f j = (s, t) := ⟨_, _, rfl⟩
      obtain ⟨s2, t2, hf2⟩ : ∃ s t, f2 j = (s, t) := ⟨_, _, rfl⟩
      rw [hf] at a0 a1
      rw [hf2] at e0 e1
      simp only at a0 a1 e0 e1
      by_cases hs : s = s2
      case neg =>
        have hne := z_ne hs
        have HN : Hid (¬ MnAlike ⟨id, sum, ⟨some ⟨b1, o1, none⟩, n, c, f⟩⟩ ⟨id, sum, ⟨some ⟨b2, o2, none⟩, n, c2, f2⟩⟩) := fun h => hs (by have := h.rows.2 j hlt; simp only [hf, hf2, Prod.mk.injEq] at this; exact this.1.symm)
        clear hs hf hf2
        go_wp2_with fail
        go_region
        all_goals
          go_wp2
          go_ret
          exact yn_no HN.out HB.out.drew
      subst hs
      by_cases ht : t = t2
      case neg =>
        have hne := int_ne ht
        have HN : Hid (¬ MnAlike ⟨id, sum, ⟨some ⟨b1, o1, none⟩, n, c, f⟩⟩ ⟨id, sum, ⟨some ⟨b2, o2, none⟩, n, c2, f2⟩⟩) := fun h => ht (by have := h.rows.2 j hlt; simp only [hf, hf2, Prod.mk.injEq] at this; exact this.2.symm)
        clear ht hf hf2
        go_wp2_with fail
        go_region
        all_goals
          go_wp2
          go_ret
          exact yn_no HN.out HB.out.drew
      subst ht
      have HA2 : Hid (∀ q, q < j + 1 → f2 q = f q) := fun q hq => by
        by_cases h : q < j
        · exact HA.out q h
        · obtain rfl : q = j := by omega
          rw [hf, hf2]
      have HXd := hid (And.intro (HX1.out.below (Below.refl _ _).drew) (HY1.out.below (Below.refl _ _).drew))
      clear hf hf2
      go_wp2_with fail
      go_region
      all_goals
        go_wp2
        go_roundw
        case rel => exact ⟨j + 1, by omega, by go_num, HA2.out, HXd.out.1, HXd.out.2, HB.out.drew⟩
        case measure => simp [intOf]; omega
    · obtain rfl : j = n := by omega
      have hlt' : ¬ (j : Int) < (j : Int) := by omega
      clear hbel
      go_wp2
      go_ret
      exact yn_yes ⟨rfl, rfl, rfl, HA.out⟩ HB.out
end Go.Proofs.YtfonicphdejdlaaGreat
