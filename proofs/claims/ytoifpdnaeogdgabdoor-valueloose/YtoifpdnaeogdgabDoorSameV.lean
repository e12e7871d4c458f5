import Derived.Test.YtoifpdnaeogdgabDoorPack0
namespace Go.Proofs.YtoifpdnaeogdgabDoor
open Go.RowKit
set_option maxRecDepth 8000

set_option maxHeartbeats 1000000 in
theorem same_any (t : VT) : ∀ (u : VT) (w : World) (S R : Nat → Prop), VT.In w S t → VT.In w R u → VT.Alike t u →
    Calls Tryd.prog 8 #[t.val, u.val] w fun e w' => e = .returned (.bool true) ∧ Below w.heap.size w w' := by
  induction t with
  | nil => intro u w S R hin; exact hin.elim
  | mk k i s n p c f ih =>
    intro u w S R hin hiu hal
    obtain ⟨k2, i2, s2, n2, p2, c2, f2, rfl⟩ := hiu.mk_
    obtain ⟨h1, h2, h3, h4, hal⟩ := hal
    simp only [VT.kind_mk, VT.int_mk, VT.text_mk, VT.n_mk, VT.item_mk] at h1 h2 h3 h4 hal
    subst h1 h2 h3 h4
    have hnn := hin.fit.nn
    simp only [VT.n_mk] at hnn
    simp only [VT.val, VT.kind_mk, VT.int_mk, VT.text_mk, VT.p_mk, VT.n_mk, VT.c_mk]
    have HI : Hid (VT.In w S (.mk k2 i2 s2 n2 p c f)) := hin
    have HU : Hid (VT.In w R (.mk k2 i2 s2 n2 p2 c2 f2)) := hiu
    have HA : Hid (∀ j, j < n2 → VT.Alike (f j) (f2 j)) := hal
    clear hin hiu hal
    go_enter Tryd.func8, Tryd.ntmps8
    go_wp2_with fail
    have hS1 : Box (w.alloc (.cells #[.int .i64 k2, .int .i64 i2, .string s2, .slice p n2 c] 24)) w.heap.size #[.int .i64 k2, .int .i64 i2, .string s2, .slice p n2 c] 24 := Box.new _ _ _
    have hS2 := hS1.below ((Below.refl _ _).alloc (Nat.le_refl _) (.cells #[.int .i64 k2, .int .i64 i2, .string s2, .slice p2 n2 c2] 24))
    have hS3 : Box ((w.alloc (.cells #[.int .i64 k2, .int .i64 i2, .string s2, .slice p n2 c] 24)).alloc (.cells #[.int .i64 k2, .int .i64 i2, .string s2, .slice p2 n2 c2] 24)) (w.heap.size + 1) #[.int .i64 k2, .int .i64 i2, .string s2, .slice p2 n2 c2] 24 := by
      have := Box.new (w.alloc (.cells #[.int .i64 k2, .int .i64 i2, .string s2, .slice p n2 c] 24)) #[.int .i64 k2, .int .i64 i2, .string s2, .slice p2 n2 c2] 24
      simpa using this
    have hS4 : Below w.heap.size w ((w.alloc (.cells #[.int .i64 k2, .int .i64 i2, .string s2, .slice p n2 c] 24)).alloc (.cells #[.int .i64 k2, .int .i64 i2, .string s2, .slice p2 n2 c2] 24)) := ((Below.refl _ _).alloc (Nat.le_refl _) _).alloc (by simp) _
    go_loopw [5] (fun x wr => ∃ j : Nat, j ≤ n2 ∧ x = .int .i64 j ∧ Box wr w.heap.size #[.int .i64 k2, .int .i64 i2, .string s2, .slice p n2 c] 24 ∧ Box wr (w.heap.size + 1) #[.int .i64 k2, .int .i64 i2, .string s2, .slice p2 n2 c2] 24 ∧ Below w.heap.size w wr) (fun x _ => n2 - (intOf x).toNat)
    case atStart => exact ⟨0, Nat.zero_le _, rfl, hS2, hS3, hS4⟩
    case round =>
      obtain ⟨j, hj, rfl, hB0, hB1, hbel⟩ := hrel
      clear hS1 hS2 hS3 hS4
      have x3 := hB0.cell 3
      have y3 := hB1.cell 3
      simp at x3 y3
      by_cases hlt : j < n2
      · have hlt' : (j : Int) < (n2 : Int) := by omega
        obtain ⟨bb, o, hp, hSb, hbl, hat⟩ := HI.out.at_ (show 0 < (VT.mk k2 i2 s2 n2 p c f).n from by simp only [VT.n]; omega)
        obtain ⟨bb2, o2, hp2, hSb2, hbl2, hat2⟩ := HU.out.at_ (show 0 < (VT.mk k2 i2 s2 n2 p2 c2 f2).n from by simp only [VT.n]; omega)
        simp only [VT.p_mk] at hp hp2
        subst hp hp2
        obtain ⟨a0, a1, a2, a3⟩ := (hat j hlt).kept (hbel.block bb hbl)
        obtain ⟨b0, b1, b2, b3⟩ := (hat2 j hlt).kept (hbel.block bb2 hbl2)
        simp only [VT.item_mk] at a0 a1 a2 a3 b0 b1 b2 b3
        have HC : Hid (∀ W, Below wr.heap.size wr W → Calls Tryd.prog 8 #[(f j).val, (f2 j).val] W fun e w' => e = .returned (.bool true) ∧ Below W.heap.size W w') := fun W hW =>
          ih j (f2 j) W (fun b => S b ∧ b < w.heap.size) (fun b => R b ∧ b < w.heap.size) ((((HI.out.sub hlt).mono fun b hb hl => ⟨hb, hl⟩).kept hbel.size (fun b hb _ => hbel.block b hb.2)).below hW) ((((HU.out.sub hlt).mono fun b hb hl => ⟨hb, hl⟩).kept hbel.size (fun b hb _ => hbel.block b hb.2)).below hW) (HA.out j hlt)
        unfold VT.val at HC
        have HB : Hid (Box wr w.heap.size #[.int .i64 k2, .int .i64 i2, .string s2, .slice (some ⟨bb, o, none⟩) n2 c] 24 ∧ Box wr (w.heap.size + 1) #[.int .i64 k2, .int .i64 i2, .string s2, .slice (some ⟨bb2, o2, none⟩) n2 c2] 24) := ⟨hB0, hB1⟩
        obtain ⟨xk, xi, xs, xn, xp, xc, xf, hx⟩ := (HI.out.sub hlt).mk_
        obtain ⟨yk, yi, ys, yn, yp, yc, yf, hy⟩ := (HU.out.sub hlt).mk_
        simp only [VT.item_mk] at hx hy
        clear hat hat2 ih HI HU HA hB0 hB1
        rw [hx] at a0 a1 a2 a3 HC
        rw [hy] at b0 b1 b2 b3 HC
        clear hx hy
        simp only [VT.kind_mk, VT.int_mk, VT.text_mk, VT.p_mk, VT.n_mk, VT.c_mk] at a0 a1 a2 a3 b0 b1 b2 b3 HC
        go_wp2_with fail
        go_region_with (go_at_call 8; refine (HC.out _ ?_).mono ?_; exact (Below.refl _ _).drew; rintro e w4 ⟨rfl, hb4⟩)
        all_goals
          have hk : Below wr.heap.size wr w4 := (Below.refl wr.heap.size wr).drew.trans hb4
          have hbl : Below w.heap.size w w4 := hbel.trans (hk.mono hbel.size)
          go_wp2
          go_roundw
          case rel => exact ⟨j + 1, by omega, by go_num, HB.out.1.below hk, HB.out.2.below hk, hbl⟩
          case measure => simp [intOf]; omega
      · obtain rfl : j = n2 := by omega
        clear ih HI HU HA hB0 hB1
        go_wp2
        go_ret
        exact ⟨rfl, hbel⟩
end Go.Proofs.YtoifpdnaeogdgabDoor
