import Derived.Test.YtkodlhjcoeljiaaRecT
import Derived.Test.YtkodlhjcoeljiaaSameV
namespace Go.Proofs.Ytkodlhjcoeljiaa
open Go.RowKit
set_option maxRecDepth 8000

set_option maxHeartbeats 2000000 in
theorem sameRecord_any (r u : RT) (w : World) (S R : Nat → Prop) (hin : RT.In w S r) (hiu : RT.In w R u) (hal : RT.Alike r u) :
    Calls Try.prog 26 #[r.val, u.val] w fun e w' => e = .returned (.bool true) ∧ Below w.heap.size w w' := by
  obtain ⟨key, v, p, n, c, lo⟩ := r
  obtain ⟨key2, v2, p2, n2, c2, lo2⟩ := u
  obtain ⟨h1, h2, h3, h4⟩ := hal
  simp only at h1 h2 h3 h4
  subst h1 h3
  have hnn := hin.l.nn
  simp only at hnn
  have HC : Hid (∀ W, Below w.heap.size w W → Calls Try.prog 12 #[v.val, v2.val] W fun e w' => e = .returned (.bool true) ∧ Below W.heap.size W w') := fun W hW => same_any v v2 W S R (hin.v.below hW) (hiu.v.below hW) h2
  have HI := hid hin.l
  have HU := hid hiu.l
  simp only at HI HU
  unfold RT.val
  unfold VT.val at HC
  simp only
  clear hin hiu h2
  have hB0 := (Box.new w #[.string key2, .int .i64 v.kind, .int .i64 v.int, .string v.text, .slice v.p v.n v.c, .slice p n2 c] 47).below ((Below.refl _ _).alloc (Nat.le_refl _) (.cells #[.string key2, .int .i64 v2.kind, .int .i64 v2.int, .string v2.text, .slice v2.p v2.n v2.c, .slice p2 n2 c2] 47))
  have hB1 := Box.new (w.alloc (.cells #[.string key2, .int .i64 v.kind, .int .i64 v.int, .string v.text, .slice v.p v.n v.c, .slice p n2 c] 47)) #[.string key2, .int .i64 v2.kind, .int .i64 v2.int, .string v2.text, .slice v2.p v2.n v2.c, .slice p2 n2 c2] 47
  rw [show (w.alloc (.cells #[.string key2, .int .i64 v.kind, .int .i64 v.int, .string v.text, .slice v.p v.n v.c, .slice p n2 c] 47)).heap.size = w.heap.size + 1 by simp] at hB1
  have hbel : Below w.heap.size w ((w.alloc (.cells #[.string key2, .int .i64 v.kind, .int .i64 v.int, .string v.text, .slice v.p v.n v.c, .slice p n2 c] 47)).alloc (.cells #[.string key2, .int .i64 v2.kind, .int .i64 v2.int, .string v2.text, .slice v2.p v2.n v2.c, .slice p2 n2 c2] 47)) := ((Below.refl _ _).alloc (Nat.le_refl _) _).alloc (by simp) _
  have HX := hid (And.intro hB0 (And.intro hB1 hbel))
  clear hB0 hB1 hbel
  go_enter Try.func26, Try.ntmps26
  go_wp2_with fail
  go_loopw [5] (fun x wr => ∃ j : Nat, j ≤ n2 ∧ x = .int .i64 j ∧ Box wr w.heap.size #[.string key2, .int .i64 v.kind, .int .i64 v.int, .string v.text, .slice v.p v.n v.c, .slice p n2 c] 47 ∧ Box wr (w.heap.size + 1) #[.string key2, .int .i64 v2.kind, .int .i64 v2.int, .string v2.text, .slice v2.p v2.n v2.c, .slice p2 n2 c2] 47 ∧ Below w.heap.size w wr) (fun x _ => n2 - (intOf x).toNat)
  case atStart => exact ⟨0, Nat.zero_le _, rfl, HX.out.1, HX.out.2.1, HX.out.2.2⟩
  case round =>
    obtain ⟨j, hj, rfl, hB0, hB1, hbel⟩ := hrel
    have HY := hid (And.intro hB0 (And.intro hB1 hbel))
    have x1 := hB0.cell 1
    have x2 := hB0.cell 2
    have x3 := hB0.cell 3
    have x4 := hB0.cell 4
    have x5 := hB0.cell 5
    have y1 := hB1.cell 1
    have y2 := hB1.cell 2
    have y3 := hB1.cell 3
    have y4 := hB1.cell 4
    have y5 := hB1.cell 5
    simp at x1 x2 x3 x4 x5 y1 y2 y3 y4 y5
    by_cases hlt : j < n2
    · have hlt' : (j : Int) < (n2 : Int) := by omega
      obtain ⟨bb, o, hp, hSb, hbl, hat⟩ := HI.out.at_ (show 0 < n2 by omega)
      obtain ⟨bb2, o2, hp2, hSb2, hbl2, hat2⟩ := HU.out.at_ (show 0 < n2 by omega)
      subst hp hp2
      have d0 := (hbel.cell (p := ⟨bb, o + j, none⟩) hbl).trans (hat j hlt)
      have e0 := (hbel.cell (p := ⟨bb2, o2 + j, none⟩) hbl2).trans (hat2 j hlt)
      rw [h4 j hlt] at e0
      clear hat hat2 hB0 hB1 hbel h4
      go_wp2_with fail
      go_region
      all_goals
        go_wp2
        go_roundw
        case rel => exact ⟨j + 1, by omega, by go_num, HY.out.1.below (Below.refl _ _).drew, HY.out.2.1.below (Below.refl _ _).drew, HY.out.2.2.drew⟩
        case measure => simp [intOf]; omega
    · have hlt' : ¬ (j : Int) < (n2 : Int) := by omega
      clear hB0 hB1 hbel h4
      go_wp2_with fail
      refine (HC.out _ HY.out.2.2).mono ?_
      rintro e w2 ⟨rfl, hb2⟩
      have HB2 := hid (HY.out.2.2.trans (hb2.mono HY.out.2.2.size))
      clear hb2
      go_wp2
      go_ret
      exact ⟨rfl, HB2.out⟩
end Go.Proofs.Ytkodlhjcoeljiaa
