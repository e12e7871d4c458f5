import Derived.Test.YtkodlhjcoeljiaaRecT
import Derived.Test.YtkodlhjcoeljiaaSameV
import Derived.Deep.RegionHeld
import Derived.Deep.CutRange
namespace Go.Proofs.Ytkodlhjcoeljiaa
open Go.RowKit
set_option maxRecDepth 8000

/-- two cells, each in a new block -/
def TwoCells (wo : World) (t u : VT) (s6 s7 : Value) (wx : World) : Prop :=
  ∃ bc bd, s6 = .pointer (some ⟨bc, 0, none⟩) ∧ s7 = .pointer (some ⟨bd, 0, none⟩) ∧ wo.heap.size ≤ bc ∧ wo.heap.size ≤ bd ∧ Box wx bc #[.string t.text, .slice t.p t.n t.c] 87 ∧ Box wx bd #[.string u.text, .slice u.p u.n u.c] 87 ∧ Below wo.heap.size wo wx

theorem twoCells_A (wo : World) (t u : VT) : TwoCells wo t u (.pointer (some ⟨wo.heap.size, 0, none⟩)) (.pointer (some ⟨wo.heap.size + 1, 0, none⟩)) ((wo.alloc (.cells #[.string t.text, .slice t.p t.n t.c] 87)).alloc (.cells #[.string u.text, .slice u.p u.n u.c] 87)).drew := by
  have h1 := (Box.new wo #[.string t.text, .slice t.p t.n t.c] 87).below ((Below.refl _ _).alloc (Nat.le_refl _) (.cells #[.string u.text, .slice u.p u.n u.c] 87)).drew
  have h2 := (Box.new (wo.alloc (.cells #[.string t.text, .slice t.p t.n t.c] 87)) #[.string u.text, .slice u.p u.n u.c] 87).below (Below.refl _ _).drew
  rw [show (wo.alloc (.cells #[.string t.text, .slice t.p t.n t.c] 87)).heap.size = wo.heap.size + 1 by simp] at h2
  exact ⟨_, _, rfl, rfl, Nat.le_refl _, Nat.le_succ _, h1, h2, (((Below.refl _ _).alloc (Nat.le_refl _) _).alloc (by simp) _).drew⟩
theorem twoCells_B (wo : World) (t u : VT) : TwoCells wo t u (.pointer (some ⟨wo.heap.size + 1, 0, none⟩)) (.pointer (some ⟨wo.heap.size, 0, none⟩)) ((wo.alloc (.cells #[.string u.text, .slice u.p u.n u.c] 87)).alloc (.cells #[.string t.text, .slice t.p t.n t.c] 87)).drew := by
  obtain ⟨bc, bd, h1, h2, h3, h4, h5, h6, h7⟩ := twoCells_A wo u t
  exact ⟨bd, bc, h2, h1, h4, h3, h6, h5, h7⟩

set_option maxHeartbeats 2000000 in
theorem sameState_any (s u : ST) (w : World) (S R : Nat → Prop) (hin : ST.In w S s) (hiu : ST.In w R u) (hal : ST.Alike s u) :
    Calls Try.prog 27 #[s.val, u.val] w fun e w' => e = .returned (.bool true) ∧ Below w.heap.size w w' := by
  obtain ⟨num, p, n, c, f⟩ := s
  obtain ⟨num2, p2, n2, c2, f2⟩ := u
  obtain ⟨h1, h2, h3⟩ := hal
  simp only at h1 h2 h3
  subst h1 h2
  have hnn := hin.nn
  simp only at hnn
  have HI := hid hin
  have HU := hid hiu
  have HA := hid h3
  unfold ST.val
  simp only
  clear hin hiu h3
  have hB0 := (Box.new w #[.int .i64 num2, .slice p n2 c] 50).below ((Below.refl _ _).alloc (Nat.le_refl _) (.cells #[.int .i64 num2, .slice p2 n2 c2] 50))
  have hB1 := Box.new (w.alloc (.cells #[.int .i64 num2, .slice p n2 c] 50)) #[.int .i64 num2, .slice p2 n2 c2] 50
  rw [show (w.alloc (.cells #[.int .i64 num2, .slice p n2 c] 50)).heap.size = w.heap.size + 1 by simp] at hB1
  have hbel : Below w.heap.size w ((w.alloc (.cells #[.int .i64 num2, .slice p n2 c] 50)).alloc (.cells #[.int .i64 num2, .slice p2 n2 c2] 50)) := ((Below.refl _ _).alloc (Nat.le_refl _) _).alloc (by simp) _
  have HX := hid (And.intro hB0 (And.intro hB1 hbel))
  clear hB0 hB1 hbel
  go_enter Try.func27, Try.ntmps27
  go_wp2_with fail
  go_loopw [5] (fun x wr => ∃ j : Nat, j ≤ n2 ∧ x = .int .i64 j ∧ Box wr w.heap.size #[.int .i64 num2, .slice p n2 c] 50 ∧ Box wr (w.heap.size + 1) #[.int .i64 num2, .slice p2 n2 c2] 50 ∧ Below w.heap.size w wr) (fun x _ => n2 - (intOf x).toNat)
  case atStart => exact ⟨0, Nat.zero_le _, rfl, HX.out.1, HX.out.2.1, HX.out.2.2⟩
  case round =>
    obtain ⟨j, hj, rfl, hB0, hB1, hbel⟩ := hrel
    have HY := hid (And.intro hB0 (And.intro hB1 hbel))
    have x1 := hB0.cell 1
    have y1 := hB1.cell 1
    simp at x1 y1
    have hl0 := hB0.lt
    have hl1 := hB1.lt
    by_cases hlt : j < n2
    · have hlt' : (j : Int) < (n2 : Int) := by omega
      obtain ⟨bb, o, hp, hSb, hbl, hat⟩ := HI.out.at_ (show 0 < n2 by omega)
      obtain ⟨bb2, o2, hp2, hSb2, hbl2, hat2⟩ := HU.out.at_ (show 0 < n2 by omega)
      simp only at hp hp2
      subst hp hp2
      obtain ⟨d0, d1⟩ := (hat j hlt).kept (hbel.block bb hbl)
      obtain ⟨e0, e1⟩ := (hat2 j hlt).kept (hbel.block bb2 hbl2)
      simp only at d0 d1 e0 e1
      have hsw := hbel.size
      have hbl' : bb < wr.heap.size := by omega
      have hbl2' : bb2 < wr.heap.size := by omega
      clear hat hat2 hB0 hB1 hbel
      obtain ⟨wo, hwo⟩ : ∃ wo : World, wo = wr := ⟨wr, rfl⟩
      subst hwo
      go_wp2_with fail
      go_cut [6, 7] from 23 to 72 (fun s6 s7 wx => TwoCells wo (f j) (f2 j) s6 s7 wx)
      case first =>
        have n1 : wo.heap.size ≠ w.heap.size := by omega
        have n2' : wo.heap.size ≠ w.heap.size + 1 := by omega
        have n3 : wo.heap.size ≠ bb := by omega
        have n4 : wo.heap.size ≠ bb2 := by omega
        have n5 : wo.heap.size + 1 ≠ w.heap.size := by omega
        have n6 : wo.heap.size + 1 ≠ w.heap.size + 1 := by omega
        have n7 : wo.heap.size + 1 ≠ bb := by omega
        have n8 : wo.heap.size + 1 ≠ bb2 := by omega
        clear HI HU HA HX HY
        go_region_held (fun W => W.cell? ⟨w.heap.size, 1, none⟩ = some (.slice (some ⟨bb, o, none⟩) n2 c) ∧ W.cell? ⟨w.heap.size + 1, 1, none⟩ = some (.slice (some ⟨bb2, o2, none⟩) n2 c2) ∧ W.cell? ⟨bb, o + j * 2, none⟩ = some (.string (f j).text) ∧ W.cell? ⟨bb, o + j * 2 + 1, none⟩ = some (.slice (f j).p (f j).n (f j).c) ∧ W.cell? ⟨bb2, o2 + j * 2, none⟩ = some (.string (f2 j).text) ∧ W.cell? ⟨bb2, o2 + j * 2 + 1, none⟩ = some (.slice (f2 j).p (f2 j).n (f2 j).c)) (go_keep) (fail)
        all_goals go_wp2_with fail
        all_goals go_meet
        · exact twoCells_A _ _ _
        · exact twoCells_B _ _ _
      case rest =>
        obtain ⟨bc, bd, h6, h7, hbc, hbd, hBc, hBd, hbx⟩ := hcut
        subst h6 h7
        obtain ⟨fk, fi, fs, fn, fp, fc, ff, hfe⟩ := (HI.out.each j hlt).mk_
        obtain ⟨gk, gi, gs, gn, gp, gc, gf, hge⟩ := (HU.out.each j hlt).mk_
        simp only at hfe hge
        have hfi := HI.out.each j hlt
        have hgi := HU.out.each j hlt
        have hal := HA.out j hlt
        simp only at hfi hgi
        rw [hfe] at hfi hal hBc
        rw [hge] at hgi hal hBd
        obtain ⟨a1, a2, a3, a4, a5⟩ := hal
        simp only [VT.kind_mk, VT.int_mk, VT.text_mk, VT.n_mk, VT.p_mk, VT.c_mk, VT.item_mk] at a1 a2 a3 a4 a5 hBc hBd
        subst a3 a4
        have hgn := hgi.fit.nn
        simp only [VT.n_mk] at hgn
        have HFi : Hid (VT.In wo S (.mk fk fi gs gn fp fc ff)) := hfi.kept HY.out.2.2.size fun b _ hl => HY.out.2.2.block b hl
        have HGi : Hid (VT.In wo R (.mk gk gi gs gn gp gc gf)) := hgi.kept HY.out.2.2.size fun b _ hl => HY.out.2.2.block b hl
        have HAl := hid a5
        have c0 := hBc.cell 0
        have c1 := hBc.cell 1
        have k0 := hBd.cell 0
        have k1 := hBd.cell 1
        simp at c0 c1 k0 k1
        have HC0 := hid (And.intro hBc (And.intro hBd hbx))
        clear hfi hgi a5 hBc hBd hbx HI HU HA HX
        go_wp2_with fail
        go_loopw [8] (fun x wr => ∃ q : Nat, q ≤ gn ∧ x = .int .i64 q ∧ Box wr bc #[.string gs, .slice fp gn fc] 87 ∧ Box wr bd #[.string gs, .slice gp gn gc] 87 ∧ Below wo.heap.size wo wr) (fun x _ => gn - (intOf x).toNat)
        case atStart => exact ⟨0, Nat.zero_le _, rfl, HC0.out.1, HC0.out.2.1, HC0.out.2.2⟩
        case round =>
          obtain ⟨q, hq, rfl, hBc, hBd, hbx⟩ := hrel
          have m1 := hBc.cell 1
          have m2 := hBd.cell 1
          simp at m1 m2
          have HZ := hid (And.intro hBc (And.intro hBd hbx))
          have hsx := hbx.size
          clear c0 c1 k0 k1
          by_cases hlq : q < gn
          · have hlq' : (q : Int) < (gn : Int) := by omega
            obtain ⟨b3, o3, hp3, hSb3, hbl3, hat3⟩ := HFi.out.at_ (show 0 < (VT.mk fk fi gs gn fp fc ff).n from by simp only [VT.n]; omega)
            obtain ⟨b4, o4, hp4, hSb4, hbl4, hat4⟩ := HGi.out.at_ (show 0 < (VT.mk gk gi gs gn gp gc gf).n from by simp only [VT.n]; omega)
            simp only [VT.p_mk] at hp3 hp4
            subst hp3 hp4
            obtain ⟨d0, d1, d2, d3⟩ := (hat3 q hlq).kept (hbx.block b3 hbl3)
            obtain ⟨e0, e1, e2, e3⟩ := (hat4 q hlq).kept (hbx.block b4 hbl4)
            simp only [VT.item_mk] at d0 d1 d2 d3 e0 e1 e2 e3
            have HC : Hid (∀ W, Below wr.heap.size wr W → Calls Try.prog 12 #[(ff q).val, (gf q).val] W fun e w' => e = .returned (.bool true) ∧ Below W.heap.size W w') := fun W hW =>
              same_any (ff q) (gf q) W S R (((HFi.out.sub hlq).kept hbx.size fun b _ hl => hbx.block b hl).below hW) (((HGi.out.sub hlq).kept hbx.size fun b _ hl => hbx.block b hl).below hW) (HAl.out q hlq)
            unfold VT.val at HC
            clear hat3 hat4 hBc hBd hbx
            go_wp2_with fail
            go_region_with (go_at_call 12; refine (HC.out _ ?_).mono ?_; exact (Below.refl _ _).drew; rintro e w4 ⟨rfl, hb4⟩)
            all_goals
              have HK := hid ((Below.refl wr.heap.size wr).drew.trans hb4)
              have HZ2 : Hid (Box w4 bc #[.string gs, .slice (some ⟨b3, o3, none⟩) gn fc] 87 ∧ Box w4 bd #[.string gs, .slice (some ⟨b4, o4, none⟩) gn gc] 87 ∧ Below wo.heap.size wo w4) := ⟨HZ.out.1.below HK.out, HZ.out.2.1.below HK.out, HZ.out.2.2.trans (HK.out.mono hsx)⟩
              go_wp2
              go_roundw
              case rel => exact ⟨q + 1, by omega, by go_num, HZ2.out.1, HZ2.out.2.1, HZ2.out.2.2⟩
              case measure => simp [intOf]; omega
          · have hlq' : ¬ (q : Int) < (gn : Int) := by omega
            have HY2 : Hid (Box wr w.heap.size #[.int .i64 num2, .slice (some ⟨bb, o, none⟩) n2 c] 50 ∧ Box wr (w.heap.size + 1) #[.int .i64 num2, .slice (some ⟨bb2, o2, none⟩) n2 c2] 50 ∧ Below w.heap.size w wr) := ⟨HY.out.1.below hbx, HY.out.2.1.below hbx, HY.out.2.2.trans (hbx.mono hsw)⟩
            clear hBc hBd hbx
            go_wp2
            go_roundw
            case rel => exact ⟨j + 1, by omega, by go_num, HY2.out.1, HY2.out.2.1, HY2.out.2.2⟩
            case measure => simp [intOf]; omega
    · have hlt' : ¬ (j : Int) < (n2 : Int) := by omega
      clear hB0 hB1 hbel
      go_wp2
      go_ret
      exact ⟨rfl, HY.out.2.2⟩
end Go.Proofs.Ytkodlhjcoeljiaa
