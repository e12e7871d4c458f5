import Derived.Test.YtnbcidlmckmaaaaKeA
import Derived.Test.YtnbcidlmckmaaaaKcR
namespace Go.Proofs.Ytnbcidlmckmaaaa
open Go.RowKit
set_option maxRecDepth 8000
theorem Bok.other {w0 w w' : World} {b x : Nat} {K : Bk} (h : Bok w0 w b K) (g : But (fun k => k = x) w w') (hx : ¬ K.C b x) (hb : w0.heap.size ≤ x) : Bok w0 w' b K :=
  ⟨h.i.kept (fun k hk hl => g.block k hl (fun e => hx (e ▸ hk))), h.bel.trans (g.below h.bel.size (fun k hk e => by omega)), h.c⟩
theorem dcell {w : World} {db : Nat} {d : Nat → Bool} (h : Box w db #[.bool (d 0), .bool (d 1), .bool (d 2), .bool (d 3)] 54) {p : Nat} (hp : p < 4) : w.cell? ⟨db, p, none⟩ = some (.bool (d p)) := by
  rw [h.cell]
  rcases (by omega : p = 0 ∨ p = 1 ∨ p = 2 ∨ p = 3) with rfl | rfl | rfl | rfl <;> rfl
theorem dset (d : Nat → Bool) {p : Nat} (hp : p < 4) : (#[.bool (d 0), .bool (d 1), .bool (d 2), .bool (d 3)] : Array Value).setIfInBounds p (.bool true) = #[.bool (setD d p 0), .bool (setD d p 1), .bool (setD d p 2), .bool (setD d p 3)] := by
  rcases (by omega : p = 0 ∨ p = 1 ∨ p = 2 ∨ p = 3) with rfl | rfl | rfl | rfl <;> simp [setD]
set_option maxHeartbeats 32000000 in
theorem meets_walk (mode ports back : Int) (s : LT OpT) (op : Option Addr) (on oc : Nat) (of : Nat → Int) (r : RT) (w : World) (hin : LT.In elOp w (fun b => b < w.heap.size) s) (hor : Ints w (fun b => b < w.heap.size) op on oc of) (hrr : RT.In w (fun b => b < w.heap.size) r) :
    Calls Try.prog 4 #[.int .i64 mode, .int .i64 ports, .int .i64 back, .slice s.p s.n s.c, .slice op on oc, .agg #[.string r.key, .int .i64 r.v.kind, .int .i64 r.v.int, .string r.v.text, .slice r.v.p r.v.n r.v.c, .slice r.p r.n r.c]] w fun e w' => e = .returned (.bool true) ∧ Below w.heap.size w w' := by
  have HI := hid hin
  have HOr := hid hor
  have HRr := hid hrr
  have hnn := hin.nn
  have hon := hor.nn
  clear hin hor hrr
  have hB0 : Below w.heap.size w (w.alloc (.cells #[.string r.key, .int .i64 r.v.kind, .int .i64 r.v.int, .string r.v.text, .slice r.v.p r.v.n r.v.c, .slice r.p r.n r.c] 36)) := (Below.refl _ _).alloc (Nat.le_refl _) _
  have HB0 := hid hB0
  have HX0 := hid (Box.new w #[.string r.key, .int .i64 r.v.kind, .int .i64 r.v.int, .string r.v.text, .slice r.v.p r.v.n r.v.c, .slice r.p r.n r.c] 36)
  have HL := hid (legal_any mode ports back (w.alloc (.cells #[.string r.key, .int .i64 r.v.kind, .int .i64 r.v.int, .string r.v.text, .slice r.v.p r.v.n r.v.c, .slice r.p r.n r.c] 36)))
  unfold LegP at HL
  clear hB0
  rcases hlg : legalB mode ports back with _ | _
  · rw [hlg] at HL
    go_enter Try.func4, Try.ntmps4
    go_wp2_with fail
    refine HL.out.mono ?_
    rintro e w1 ⟨rfl, hw1⟩
    have HB1 : Hid (Below w.heap.size w w1) := by unfold Hid; rw [hw1]; exact HB0.out
    clear hw1
    go_wp2
    exact bodyPost_ret (v := .bool true) (by simp [results, Try.results4, go_sem]) rfl ⟨rfl, HB1.out⟩
  rw [hlg] at HL
  have hm : 1 ≤ mode ∧ mode ≤ 3 ∧ 1 ≤ ports ∧ ports ≤ 4 := by have := of_decide_eq_true hlg; omega
  obtain ⟨N, rfl⟩ : ∃ N : Nat, ports = (N : Int) := ⟨ports.toNat, by omega⟩
  have hN1 : 1 ≤ N := by omega
  have hN4 : N ≤ 4 := by omega
  have HLg := hid hlg
  clear hlg
  have hB1 : Below w.heap.size w ((w.alloc (.cells #[.string r.key, .int .i64 r.v.kind, .int .i64 r.v.int, .string r.v.text, .slice r.v.p r.v.n r.v.c, .slice r.p r.n r.c] 36)).alloc (.cells #[.string r.key, .int .i64 r.v.kind, .int .i64 r.v.int, .string r.v.text, .slice r.v.p r.v.n r.v.c, .slice r.p r.n r.c] 36)) := HB0.out.alloc (by simp) _
  have HZ := hid (sizesR_any r ((w.alloc (.cells #[.string r.key, .int .i64 r.v.kind, .int .i64 r.v.int, .string r.v.text, .slice r.v.p r.v.n r.v.c, .slice r.p r.n r.c] 36)).alloc (.cells #[.string r.key, .int .i64 r.v.kind, .int .i64 r.v.int, .string r.v.text, .slice r.v.p r.v.n r.v.c, .slice r.p r.n r.c] 36)) (fun b => b < w.heap.size) (HRr.out.kept hB1.size (fun b hb _ => hB1.block b hb)) (fun b hb => by have := hB1.size; omega) (w.heap.size + 1) (by have := Box.new (w.alloc (.cells #[.string r.key, .int .i64 r.v.kind, .int .i64 r.v.int, .string r.v.text, .slice r.v.p r.v.n r.v.c, .slice r.p r.n r.c] 36)) #[.string r.key, .int .i64 r.v.kind, .int .i64 r.v.int, .string r.v.text, .slice r.v.p r.v.n r.v.c, .slice r.p r.n r.c] 36; simpa using this))
  have HX1 := hid (HX0.out.below ((Below.refl _ _).alloc (Nat.le_refl _) (.cells #[.string r.key, .int .i64 r.v.kind, .int .i64 r.v.int, .string r.v.text, .slice r.v.p r.v.n r.v.c, .slice r.p r.n r.c] 36)))
  have HB1 := hid hB1
  clear hB1
  go_enter Try.func4, Try.ntmps4
  go_wp2_with fail
  refine HL.out.mono ?_
  rintro e w1 ⟨rfl, hw1⟩
  rw [hw1]
  clear hw1 w1 HL
  go_wp2_with fail
  refine HZ.out.mono ?_
  rintro e w2 ⟨q2, rfl, hq2, hb2⟩
  have HB2 := hid (HB1.out.trans (hb2.mono HB1.out.size))
  have HX2 := hid (HX1.out.below hb2)
  clear hb2 HZ HB1 HX1 HB0 HX0
  rcases q2 with _ | _
  · clear hq2
    go_wp2
    exact bodyPost_ret (v := .bool true) (by simp [results, Try.results4, go_sem]) rfl ⟨rfl, HB2.out⟩
  have hrs : r.size ≤ 10000 := hq2 rfl
  have HRs := hid hrs
  clear hq2 hrs
  go_wp2_with fail
  refine (new_any mode N back w2).mono ?_
  rintro e w3 hnew
  obtain ⟨rfl, hw3⟩ := hnew.1 HLg.out
  have h3 : Bok w w3 w2.heap.size (Bk.fresh mode N back) := by rw [hw3]; exact (Bok.fresh mode N back w2 HLg.out).lift HB2.out
  have hx3 : Box w3 w.heap.size #[.string r.key, .int .i64 r.v.kind, .int .i64 r.v.int, .string r.v.text, .slice r.v.p r.v.n r.v.c, .slice r.p r.n r.c] 36 := by rw [hw3]; exact HX2.out.below ((Below.refl _ _).alloc (Nat.le_refl _) _)
  have hn3 : ¬ (Bk.fresh mode N back).C w2.heap.size w.heap.size := by
    rintro (e | ⟨i, _, e⟩)
    · have := HX2.out.lt; omega
    · cases e
  have H3 := hid (And.intro h3 (And.intro hx3 hn3))
  clear hnew hw3 h3 hx3 hn3
  obtain ⟨b, hb⟩ : ∃ b, b = w2.heap.size := ⟨_, rfl⟩
  rw [← hb] at H3 ⊢
  clear hb
  go_wp2_with (first | (go_at_call 11; refine (num_any _ _).mono ?_; rintro e w4 ⟨rfl, rfl⟩) | (go_at_call 12; refine (known_any mode hm.1 hm.2.1 _).mono ?_; rintro e w5 ⟨rfl, hb5⟩))
  have H5 := hid (And.intro (H3.out.1.below hb5) (And.intro (H3.out.2.1.below hb5) H3.out.2.2))
  have HIn5 : Hid (LT.In elOp w5 (fun b => b < w.heap.size) s) := HI.out.kept H5.out.1.bel.size (fun b hb _ => H5.out.1.bel.block b hb)
  clear hb5 H3
  refine (inside_any s w5 (HIn5.out.mono (fun b _ hl => hl))).mono ?_
  rintro e w6 ⟨hb6, r6, rfl, hsz⟩
  have H6 := hid (And.intro (H5.out.1.below hb6) (And.intro (H5.out.2.1.below hb6) H5.out.2.2))
  clear hb6 H5 HIn5
  rcases r6 with _ | _
  · clear hsz
    go_wp2
    exact bodyPost_ret (v := .bool true) (by simp [results, Try.results4, go_sem]) rfl ⟨rfl, H6.out.1.bel⟩
  have HSz2 := hid (hsz rfl)
  clear hsz
  go_wp2_with fail
  go_loopw [15] (fun xi wr => ∃ (k : Nat) (K : Bk), k ≤ s.n ∧ k ≤ 600 ∧ xi = .int .i64 (k : Int) ∧ Bok w wr b K ∧ K.ports = (N : Int) ∧ LgN K (10000 * k) ∧ Box wr w.heap.size #[.string r.key, .int .i64 r.v.kind, .int .i64 r.v.int, .string r.v.text, .slice r.v.p r.v.n r.v.c, .slice r.p r.n r.c] 36 ∧ ¬ K.C b w.heap.size) (fun x _ => s.n - (intOf x).toNat)
  case atStart => exact ⟨0, Bk.fresh mode N back, Nat.zero_le _, by omega, rfl, H6.out.1, rfl, fun _ _ => Nat.zero_le _, H6.out.2.1, H6.out.2.2⟩
  case round =>
    obtain ⟨k, K, hk, hk6, rfl, hBok, hpo, hLg, hrx, hrn⟩ := hrel
    have HBok := hid hBok
    have HLgN := hid hLg
    have HPo := hid hpo
    have HRx := hid (And.intro hrx hrn)
    have hbl := hBok.i.box.lt
    clear hBok hLg H6 hrx hrn hpo
    by_cases hlt : k < s.n
    rotate_left
    · have hlt' : ¬ (k : Int) < (s.n : Int) := by omega
      obtain ⟨w1, hw1⟩ : ∃ x : World, x = wr := ⟨_, rfl⟩
      subst hw1
      go_wp2_with fail
      refine (now_any w1 b K HBok.out.i).mono ?_
      rintro e w5 ⟨rfl, hw5⟩
      rw [hw5]
      clear hw5 w5
      by_cases h9 : 9999 ≤ K.now
      · go_wp2
        exact bodyPost_ret (v := .bool true) (by simp [results, Try.results4, go_sem]) rfl ⟨rfl, HBok.out.bel⟩
      go_wp2_with fail
      refine (held_any 0 w1 b K HBok.out.i).mono ?_
      rintro e w5 ⟨rfl, hw5⟩
      rw [hw5]
      clear hw5 w5
      rcases hh0 : K.held 0 with _ | _
      rotate_left
      · go_wp2
        exact bodyPost_ret (v := .bool true) (by simp [results, Try.results4, go_sem]) rfl ⟨rfl, HBok.out.bel⟩
      go_wp2_with fail
      refine (held_any 1 w1 b K HBok.out.i).mono ?_
      rintro e w5 ⟨rfl, hw5⟩
      rw [hw5]
      clear hw5 w5
      rcases hh1 : K.held 1 with _ | _
      rotate_left
      · go_wp2
        exact bodyPost_ret (v := .bool true) (by simp [results, Try.results4, go_sem]) rfl ⟨rfl, HBok.out.bel⟩
      go_wp2_with fail
      refine (held_any 2 w1 b K HBok.out.i).mono ?_
      rintro e w5 ⟨rfl, hw5⟩
      rw [hw5]
      clear hw5 w5
      rcases hh2 : K.held 2 with _ | _
      rotate_left
      · go_wp2
        exact bodyPost_ret (v := .bool true) (by simp [results, Try.results4, go_sem]) rfl ⟨rfl, HBok.out.bel⟩
      go_wp2_with fail
      refine (held_any 3 w1 b K HBok.out.i).mono ?_
      rintro e w5 ⟨rfl, hw5⟩
      rw [hw5]
      clear hw5 w5
      rcases hh3 : K.held 3 with _ | _
      rotate_left
      · go_wp2
        exact bodyPost_ret (v := .bool true) (by simp [results, Try.results4, go_sem]) rfl ⟨rfl, HBok.out.bel⟩
      go_wp2_with fail
      obtain ⟨db, hdb⟩ : ∃ x, x = w1.heap.size := ⟨_, rfl⟩
      obtain ⟨old, hold⟩ : ∃ x, x = K.now := ⟨_, rfl⟩
      have hal : Below w1.heap.size w1 (w1.alloc (.cells #[.bool false, .bool false, .bool false, .bool false] 54)) := (Below.refl _ _).alloc (Nat.le_refl _) _
      have HBd := hid (HBok.out.below hal)
      have HXd : Hid (Box (w1.alloc (.cells #[.bool false, .bool false, .bool false, .bool false] 54)) db #[.bool false, .bool false, .bool false, .bool false] 54 ∧ ¬ K.C b db) := by
        unfold Hid
        rw [hdb]
        exact ⟨Box.new _ _ _, fun e => by have := HBok.out.i.lt e; omega⟩
      have HRd := hid (And.intro (HRx.out.1.below hal) HRx.out.2)
      have hdw : w.heap.size < db := by rw [hdb]; exact HRx.out.1.lt
      have HJ0 : Hid (MJ K old N (fun _ => false)) := by
        unfold Hid
        rw [hold]
        refine MJ.start HPo.out HBok.out.i.n0 (by omega) (fun p hp => ?_) hN4
        rcases (by omega : p = 0 ∨ p = 1 ∨ p = 2 ∨ p = 3) with rfl | rfl | rfl | rfl
        · exact hh0
        · exact hh1
        · exact hh2
        · exact hh3
      have HLg0 : Hid (LgN K 6000000) := HLgN.out.le (by omega)
      rw [← hold, ← hdb]
      have hdbs : (w1.alloc (.cells #[.bool false, .bool false, .bool false, .bool false] 54)).heap.size = db + 1 := by rw [hdb]; simp
      have hcz : cntU (fun _ => false) N = N := by
        have h : ∀ M, cntU (fun _ => false) M = M := fun M => by
          induction M with
          | zero => rfl
          | succ M ih => rw [cntU_succ, ih]; rfl
        exact h N
      have HCz := hid hcz
      clear hal hh0 hh1 hh2 hh3 h9 hold hdb HBok HRx HLgN HPo hcz hdbs
      generalize w1.alloc (.cells #[.bool false, .bool false, .bool false, .bool false] 54) = wd at HBd HXd HRd ⊢
      go_loopw [19, 20] (fun xl xi wr => ∃ (i : Nat) (d : Nat → Bool) (K : Bk), i ≤ on + N ∧ xl = .int .i64 ((cntU d N : Nat) : Int) ∧ xi = .int .i64 (i : Int) ∧ Bok w wr b K ∧ MJ K old N d ∧ (∀ p, N ≤ p → d p = false) ∧ (∀ p, on + p < i → p < N → d p = true) ∧ Box wr db #[.bool (d 0), .bool (d 1), .bool (d 2), .bool (d 3)] 54 ∧ ¬ K.C b db ∧ Box wr w.heap.size #[.string r.key, .int .i64 r.v.kind, .int .i64 r.v.int, .string r.v.text, .slice r.v.p r.v.n r.v.c, .slice r.p r.n r.c] 36 ∧ ¬ K.C b w.heap.size ∧ LgN K (6000000 + 50000 * (N - cntU d N))) (fun _ x _ => on + N - (intOf x).toNat)
      case atStart => exact ⟨0, fun _ => false, K, Nat.zero_le _, by rw [HCz.out], rfl, HBd.out, HJ0.out, fun _ _ => rfl, fun p hp => absurd hp (by omega), HXd.out.1, HXd.out.2, HRd.out.1, HRd.out.2, HLg0.out.le (by omega)⟩
      case round =>
        clear HBd HXd HRd HJ0 HLg0 HCz
        obtain ⟨i, d, K, hi, rfl, rfl, i1, i2, hdo, hdn, i3, i4, i5, i6, i7⟩ := hrel
        have HBok2 := hid i1
        have HJ := hid i2
        have HDb := hid (And.intro i3 i4)
        have HRx2 := hid (And.intro i5 i6)
        have HLg2 := hid i7
        have idl := i3.lt
        have ibl := i1.i.box.lt
        have hcl := cntU_le d N
        clear i1 i2 i3 i4 i5 i6 i7
        by_cases hc1 : i < on + N
        rotate_left
        · have hc1' : ¬ (i : Int) < (on : Int) + (N : Int) := by omega
          have hall : ∀ p, p < N → d p = true := fun p hp => hdn p (by omega) hp
          go_wp2_with fail
          refine (part_any wr b K HBok2.out.i).mono ?_
          rintro e w7 ⟨K7, hP⟩
          obtain ⟨e1, e2, e3⟩ := HJ.out.end_ (by omega) hall
          obtain ⟨rfl, pL, cL, rfl, _⟩ := hP.y e3
          have hpt : K.ports.toNat = N := by rw [HJ.out.ports]; omega
          rw [e1, e2, hpt]
          have H7 := hid ((HBok2.out.step hP.s).below ((Below.refl w7.heap.size w7).alloc (Nat.le_refl _) (.cells #[.int .i64 5, .slice K.cl.p K.cl.n K.cl.c, .slice pL N cL, .slice K.pd.p K.pd.n K.pd.c] 49)))
          have ho0 := HJ.out.o0
          have ho1 := HJ.out.o1
          clear hP e1 e2 e3 hpt
          go_wp2
          exact bodyPost_ret (v := .bool true) (by simp [results, Try.results4, go_sem]) rfl ⟨rfl, H7.out.bel⟩
        have hc1' : (i : Int) < (on : Int) + (N : Int) := by omega
        by_cases hc2 : 0 < cntU d N
        rotate_left
        · have hc2' : ¬ (0 : Int) < ((cntU d N : Nat) : Int) := by omega
          have hall : ∀ p, p < N → d p = true := cntU_all d N (by omega)
          go_wp2_with fail
          refine (part_any wr b K HBok2.out.i).mono ?_
          rintro e w7 ⟨K7, hP⟩
          obtain ⟨e1, e2, e3⟩ := HJ.out.end_ (by omega) hall
          obtain ⟨rfl, pL, cL, rfl, _⟩ := hP.y e3
          have hpt : K.ports.toNat = N := by rw [HJ.out.ports]; omega
          rw [e1, e2, hpt]
          have H7 := hid ((HBok2.out.step hP.s).below ((Below.refl w7.heap.size w7).alloc (Nat.le_refl _) (.cells #[.int .i64 5, .slice K.cl.p K.cl.n K.cl.c, .slice pL N cL, .slice K.pd.p K.pd.n K.pd.c] 49)))
          have ho0 := HJ.out.o0
          have ho1 := HJ.out.o1
          clear hP e1 e2 e3 hpt
          go_wp2
          exact bodyPost_ret (v := .bool true) (by simp [results, Try.results4, go_sem]) rfl ⟨rfl, H7.out.bel⟩
        have hc2' : (0 : Int) < ((cntU d N : Nat) : Int) := by omega
        by_cases hio : i < on
        · obtain ⟨ob, oo, hop, hoS, hol, hoat⟩ := HOr.out.at_ (by omega)
          have co : wr.cell? ⟨ob, oo + i, none⟩ = some (.int .i64 (of i)) := (World.cell?_of_block (a := ⟨ob, oo + i, none⟩) (HBok2.out.bel.block ob hol)).trans (hoat i hio)
          rw [hop]
          clear hoat hop
          have hio' : (i : Int) < (on : Int) := by omega
          by_cases h1 : of i < 0
          · go_wp2
            go_roundw
            case rel => exact ⟨i + 1, d, K, by omega, rfl, by go_num, HBok2.out, HJ.out, hdo, fun p hp1 hp2 => by exact hdn p (by omega) hp2, HDb.out.1, HDb.out.2, HRx2.out.1, HRx2.out.2, HLg2.out⟩
            case measure => simp [intOf]; omega
          by_cases h2 : (N : Int) ≤ of i
          · go_wp2
            go_roundw
            case rel => exact ⟨i + 1, d, K, by omega, rfl, by go_num, HBok2.out, HJ.out, hdo, fun p hp1 hp2 => by exact hdn p (by omega) hp2, HDb.out.1, HDb.out.2, HRx2.out.1, HRx2.out.2, HLg2.out⟩
            case measure => simp [intOf]; omega
          obtain ⟨pn, hpn⟩ : ∃ pn : Nat, of i = (pn : Int) := ⟨(of i).toNat, by omega⟩
          rw [hpn] at co
          have hpN : pn < N := by omega
          clear h1 h2 hpn
          have hpN' : ¬ (N : Int) ≤ (pn : Int) := by omega
          have hp4 : (pn : Int) < 4 := by omega
          have dp := dcell HDb.out.1 (show pn < 4 by omega)
          rcases hd : d pn with _ | _
          rotate_left
          · rw [hd] at dp
            go_wp2
            go_roundw
            case rel => exact ⟨i + 1, d, K, by omega, rfl, by go_num, HBok2.out, HJ.out, hdo, fun p hp1 hp2 => by exact hdn p (by omega) hp2, HDb.out.1, HDb.out.2, HRx2.out.1, HRx2.out.2, HLg2.out⟩
            case measure => simp [intOf]; omega
          rw [hd] at dp
          have htk := HJ.out.held hpN hd
          clear htk
          go_wp2_with fail
          obtain ⟨wo, hwo⟩ : ∃ x : World, x = wr := ⟨_, rfl⟩
          subst hwo
          go_loopw [22] (fun xq wi => ∃ (q : Nat) (K2 : Bk), q ≤ N ∧ xq = .int .i64 (q : Int) ∧ Bok w wi b K2 ∧ MJ K2 old N d ∧ LgN K2 (6000000 + 50000 * (N - cntU d N) + 10000 * q) ∧ Box wi db #[.bool (d 0), .bool (d 1), .bool (d 2), .bool (d 3)] 54 ∧ ¬ K2.C b db ∧ Box wi w.heap.size #[.string r.key, .int .i64 r.v.kind, .int .i64 r.v.int, .string r.v.text, .slice r.v.p r.v.n r.v.c, .slice r.p r.n r.c] 36 ∧ ¬ K2.C b w.heap.size) (fun x _ => N - (intOf x).toNat)
          case atStart => exact ⟨0, K, Nat.zero_le _, rfl, HBok2.out, HJ.out, HLg2.out.le (by omega), HDb.out.1, HDb.out.2, HRx2.out.1, HRx2.out.2⟩
          case round =>
            obtain ⟨q, K2, hq, rfl, i1, i2, i3, i4, i5, i6, i7⟩ := hrel
            have J1 := hid i1
            have J2 := hid i2
            have J3 := hid i3
            have J4 := hid (And.intro i4 i5)
            have J6 := hid (And.intro i6 i7)
            have il := i4.lt
            have irl := i6.lt
            have ib := i1.i.box.lt
            have r0 := i6.cell 0
            have r1 := i6.cell 1
            have r2 := i6.cell 2
            have r3 := i6.cell 3
            have r4 := i6.cell 4
            have r5 := i6.cell 5
            simp at r0 r1 r2 r3 r4 r5
            clear i1 i2 i3 i5 i6 i7
            by_cases hqN : q < N
            · have hqN' : (q : Int) < (N : Int) := by omega
              have hq4 : (q : Int) < 4 := by omega
              have dq := dcell i4 (show q < 4 by omega)
              clear i4
              rcases hdq : d q with _ | _
              · rw [hdq] at dq
                have HT := hid (took_any (q : Int) r wr (fun b => b < w.heap.size) b K2 J1.out.i (HRr.out.kept J1.out.bel.size (fun b hb _ => J1.out.bel.block b hb)) HRs.out (fun i hi => by have := J3.out i hi; omega))
                go_wp2_with (first | (go_at_call 14; refine HT.out.mono ?_; rintro e w7 ⟨K7, rfl, hQ⟩; rw [J2.out.tookE hqN hdq]) | (go_at_call 11; refine (num_any _ _).mono ?_; rintro e w8 ⟨rfl, rfl⟩))
                have o1 := hQ.s.out J4.out.1.lt J4.out.2
                have o2 := hQ.s.out J6.out.1.lt J6.out.2
                have H7 := hid (And.intro (J1.out.step hQ.s) (And.intro (J2.out.took hQ) (And.intro (J3.out.took hQ) (And.intro (J4.out.1.kept o1.1) (And.intro o1.2.1 (And.intro (J6.out.1.kept o2.1) o2.2.1))))))
                clear hQ HT o1 o2
                go_roundw
                case rel => exact ⟨q + 1, K7, by omega, by go_num, H7.out.1, H7.out.2.1, H7.out.2.2.1.le (by omega), H7.out.2.2.2.1, H7.out.2.2.2.2.1, H7.out.2.2.2.2.2.1, H7.out.2.2.2.2.2.2⟩
                case measure => simp [intOf]; omega
              · rw [hdq] at dq
                go_wp2
                go_roundw
                case rel => exact ⟨q + 1, K2, by omega, by go_num, J1.out, J2.out, J3.out.le (by omega), J4.out.1, J4.out.2, J6.out.1, J6.out.2⟩
                case measure => simp [intOf]; omega
            · obtain rfl : q = N := by omega
              have hqN' : ¬ (q : Int) < (q : Int) := by omega
              have hmk := mark_any (pn : Int) (old + 1) (nilL fun _ => rt0) 5 (nilL fun _ => .nil) (nilL fun _ => rt0) wr (fun _ => False) b K2 J1.out.i (fun _ hx => hx.elim) (nilC_in _ _ _) (nilR_in _ _ _) (nilC_sz _) (nilR_sz _) (nilR_in _ _ _) (nilR_sz _) (fun i hi => by have := J3.out i hi; omega)
              have hre : K2.refE (pn : Int) (old + 1) = 0 := by
                have h0 := J2.out.o0
                have h1 := J2.out.o1
                rw [Bk.refE, if_neg (by rw [J2.out.hasP hpN]; decide), if_neg (by omega), if_neg (by rw [J2.out.held hpN hd]; decide)]
              rw [hre] at hmk
              have HMk := hid hmk
              have ho0 := J2.out.o0
              have ho1 := J2.out.o1
              clear hmk hre i4
              go_wp2_with fail
              refine HMk.out.mono ?_
              rintro e w7 ⟨K7, r7, rfl, hQ⟩
              have o1 := hQ.s.out J4.out.1.lt J4.out.2
              have o2 := hQ.s.out J6.out.1.lt J6.out.2
              have hX7 := J4.out.1.kept o1.1
              have d7 := dcell hX7 (show pn < 4 by omega)
              have f7 := hX7.frozen pn
              have l7 := hX7.lt
              have hbt : But (fun k => k = db) w7 (w7.setCell ⟨db, pn, none⟩ (.bool true)) := (But.one w7 db).setAt pn _
              have h7 := (J1.out.step hQ.s).other hbt o1.2.1 (by omega)
              have hd7 : Box (w7.setCell ⟨db, pn, none⟩ (.bool true)) db #[.bool (setD d pn 0), .bool (setD d pn 1), .bool (setD d pn 2), .bool (setD d pn 3)] 54 := by
                have h := hX7.set pn (.bool true)
                rwa [dset d (show pn < 4 by omega)] at h
              have hcu := cntU_set d pn hd q hpN
              have hle := cntU_le d q
              have H7 := hid (And.intro h7 (And.intro (J2.out.mark hpN hd hQ) (And.intro (J3.out.mark (nilR_sz _) hQ) (And.intro hd7 (And.intro o1.2.1 (And.intro ((J6.out.1.kept o2.1).kept (hbt.block _ o2.2.2 (by omega))) o2.2.1))))))
              clear hQ o1 o2 hX7 hbt h7 hd7 HMk
              go_wp2_with (go_at_call 11; refine (num_any _ _).mono ?_; rintro e w8 ⟨rfl, rfl⟩)
              go_roundw
              case rel => exact ⟨i + 1, setD d pn, K7, by omega, by go_num, by go_num, H7.out.1, H7.out.2.1, fun p hp => by (have := hdo p hp); simp only [setD]; rw [if_neg (by omega)]; exact this, fun p hp1 hp2 => by (by_cases e : p = pn; subst e; simp [setD]; simp only [setD, if_neg e]; exact hdn p (by omega) hp2), H7.out.2.2.2.1, H7.out.2.2.2.2.1, H7.out.2.2.2.2.2.1, H7.out.2.2.2.2.2.2, H7.out.2.2.1.le (by omega)⟩
              case measure => simp [intOf]; omega
        · have hio' : ¬ (i : Int) < (on : Int) := by omega
          obtain ⟨pn, hpn⟩ : ∃ pn : Nat, i = on + pn := ⟨i - on, by omega⟩
          have hpn' : (i : Int) - (on : Int) = (pn : Int) := by omega
          have hpN : pn < N := by omega
          have HPn := hid hpn
          clear hpn
          have hpN' : ¬ (N : Int) ≤ (pn : Int) := by omega
          have hp4 : (pn : Int) < 4 := by omega
          have dp := dcell HDb.out.1 (show pn < 4 by omega)
          rcases hd : d pn with _ | _
          rotate_left
          · rw [hd] at dp
            go_wp2
            go_roundw
            case rel => exact ⟨i + 1, d, K, by omega, rfl, by go_num, HBok2.out, HJ.out, hdo, fun p hp1 hp2 => by (by_cases e : p = pn; subst e; exact hd; exact hdn p (by have := HPn.out; omega) hp2), HDb.out.1, HDb.out.2, HRx2.out.1, HRx2.out.2, HLg2.out⟩
            case measure => simp [intOf]; omega
          rw [hd] at dp
          have htk := HJ.out.held hpN hd
          clear htk
          go_wp2_with fail
          obtain ⟨wo, hwo⟩ : ∃ x : World, x = wr := ⟨_, rfl⟩
          subst hwo
          go_loopw [22] (fun xq wi => ∃ (q : Nat) (K2 : Bk), q ≤ N ∧ xq = .int .i64 (q : Int) ∧ Bok w wi b K2 ∧ MJ K2 old N d ∧ LgN K2 (6000000 + 50000 * (N - cntU d N) + 10000 * q) ∧ Box wi db #[.bool (d 0), .bool (d 1), .bool (d 2), .bool (d 3)] 54 ∧ ¬ K2.C b db ∧ Box wi w.heap.size #[.string r.key, .int .i64 r.v.kind, .int .i64 r.v.int, .string r.v.text, .slice r.v.p r.v.n r.v.c, .slice r.p r.n r.c] 36 ∧ ¬ K2.C b w.heap.size) (fun x _ => N - (intOf x).toNat)
          case atStart => exact ⟨0, K, Nat.zero_le _, rfl, HBok2.out, HJ.out, HLg2.out.le (by omega), HDb.out.1, HDb.out.2, HRx2.out.1, HRx2.out.2⟩
          case round =>
            obtain ⟨q, K2, hq, rfl, i1, i2, i3, i4, i5, i6, i7⟩ := hrel
            have J1 := hid i1
            have J2 := hid i2
            have J3 := hid i3
            have J4 := hid (And.intro i4 i5)
            have J6 := hid (And.intro i6 i7)
            have il := i4.lt
            have irl := i6.lt
            have ib := i1.i.box.lt
            have r0 := i6.cell 0
            have r1 := i6.cell 1
            have r2 := i6.cell 2
            have r3 := i6.cell 3
            have r4 := i6.cell 4
            have r5 := i6.cell 5
            simp at r0 r1 r2 r3 r4 r5
            clear i1 i2 i3 i5 i6 i7
            by_cases hqN : q < N
            · have hqN' : (q : Int) < (N : Int) := by omega
              have hq4 : (q : Int) < 4 := by omega
              have dq := dcell i4 (show q < 4 by omega)
              clear i4
              rcases hdq : d q with _ | _
              · rw [hdq] at dq
                have HT := hid (took_any (q : Int) r wr (fun b => b < w.heap.size) b K2 J1.out.i (HRr.out.kept J1.out.bel.size (fun b hb _ => J1.out.bel.block b hb)) HRs.out (fun i hi => by have := J3.out i hi; omega))
                go_wp2_with (first | (go_at_call 14; refine HT.out.mono ?_; rintro e w7 ⟨K7, rfl, hQ⟩; rw [J2.out.tookE hqN hdq]) | (go_at_call 11; refine (num_any _ _).mono ?_; rintro e w8 ⟨rfl, rfl⟩))
                have o1 := hQ.s.out J4.out.1.lt J4.out.2
                have o2 := hQ.s.out J6.out.1.lt J6.out.2
                have H7 := hid (And.intro (J1.out.step hQ.s) (And.intro (J2.out.took hQ) (And.intro (J3.out.took hQ) (And.intro (J4.out.1.kept o1.1) (And.intro o1.2.1 (And.intro (J6.out.1.kept o2.1) o2.2.1))))))
                clear hQ HT o1 o2
                go_roundw
                case rel => exact ⟨q + 1, K7, by omega, by go_num, H7.out.1, H7.out.2.1, H7.out.2.2.1.le (by omega), H7.out.2.2.2.1, H7.out.2.2.2.2.1, H7.out.2.2.2.2.2.1, H7.out.2.2.2.2.2.2⟩
                case measure => simp [intOf]; omega
              · rw [hdq] at dq
                go_wp2
                go_roundw
                case rel => exact ⟨q + 1, K2, by omega, by go_num, J1.out, J2.out, J3.out.le (by omega), J4.out.1, J4.out.2, J6.out.1, J6.out.2⟩
                case measure => simp [intOf]; omega
            · obtain rfl : q = N := by omega
              have hqN' : ¬ (q : Int) < (q : Int) := by omega
              have hmk := mark_any (pn : Int) (old + 1) (nilL fun _ => rt0) 5 (nilL fun _ => .nil) (nilL fun _ => rt0) wr (fun _ => False) b K2 J1.out.i (fun _ hx => hx.elim) (nilC_in _ _ _) (nilR_in _ _ _) (nilC_sz _) (nilR_sz _) (nilR_in _ _ _) (nilR_sz _) (fun i hi => by have := J3.out i hi; omega)
              have hre : K2.refE (pn : Int) (old + 1) = 0 := by
                have h0 := J2.out.o0
                have h1 := J2.out.o1
                rw [Bk.refE, if_neg (by rw [J2.out.hasP hpN]; decide), if_neg (by omega), if_neg (by rw [J2.out.held hpN hd]; decide)]
              rw [hre] at hmk
              have HMk := hid hmk
              have ho0 := J2.out.o0
              have ho1 := J2.out.o1
              clear hmk hre i4
              go_wp2_with fail
              refine HMk.out.mono ?_
              rintro e w7 ⟨K7, r7, rfl, hQ⟩
              have o1 := hQ.s.out J4.out.1.lt J4.out.2
              have o2 := hQ.s.out J6.out.1.lt J6.out.2
              have hX7 := J4.out.1.kept o1.1
              have d7 := dcell hX7 (show pn < 4 by omega)
              have f7 := hX7.frozen pn
              have l7 := hX7.lt
              have hbt : But (fun k => k = db) w7 (w7.setCell ⟨db, pn, none⟩ (.bool true)) := (But.one w7 db).setAt pn _
              have h7 := (J1.out.step hQ.s).other hbt o1.2.1 (by omega)
              have hd7 : Box (w7.setCell ⟨db, pn, none⟩ (.bool true)) db #[.bool (setD d pn 0), .bool (setD d pn 1), .bool (setD d pn 2), .bool (setD d pn 3)] 54 := by
                have h := hX7.set pn (.bool true)
                rwa [dset d (show pn < 4 by omega)] at h
              have hcu := cntU_set d pn hd q hpN
              have hle := cntU_le d q
              have H7 := hid (And.intro h7 (And.intro (J2.out.mark hpN hd hQ) (And.intro (J3.out.mark (nilR_sz _) hQ) (And.intro hd7 (And.intro o1.2.1 (And.intro ((J6.out.1.kept o2.1).kept (hbt.block _ o2.2.2 (by omega))) o2.2.1))))))
              clear hQ o1 o2 hX7 hbt h7 hd7 HMk
              go_wp2_with (go_at_call 11; refine (num_any _ _).mono ?_; rintro e w8 ⟨rfl, rfl⟩)
              go_roundw
              case rel => exact ⟨i + 1, setD d pn, K7, by omega, by go_num, by go_num, H7.out.1, H7.out.2.1, fun p hp => by (have := hdo p hp); simp only [setD]; rw [if_neg (by omega)]; exact this, fun p hp1 hp2 => by (by_cases e : p = pn; subst e; simp [setD]; simp only [setD, if_neg e]; exact hdn p (by have := HPn.out; omega) hp2), H7.out.2.2.2.1, H7.out.2.2.2.2.1, H7.out.2.2.2.2.2.1, H7.out.2.2.2.2.2.2, H7.out.2.2.1.le (by omega)⟩
              case measure => simp [intOf]; omega
    have hlt' : (k : Int) < (s.n : Int) := by omega
    by_cases hlt6 : k < 600
    rotate_left
    · have hlt6' : ¬ (k : Int) < 600 := by omega
      obtain ⟨w1, hw1⟩ : ∃ x : World, x = wr := ⟨_, rfl⟩
      subst hw1
      go_wp2_with fail
      refine (now_any w1 b K HBok.out.i).mono ?_
      rintro e w5 ⟨rfl, hw5⟩
      rw [hw5]
      clear hw5 w5
      by_cases h9 : 9999 ≤ K.now
      · go_wp2
        exact bodyPost_ret (v := .bool true) (by simp [results, Try.results4, go_sem]) rfl ⟨rfl, HBok.out.bel⟩
      go_wp2_with fail
      refine (held_any 0 w1 b K HBok.out.i).mono ?_
      rintro e w5 ⟨rfl, hw5⟩
      rw [hw5]
      clear hw5 w5
      rcases hh0 : K.held 0 with _ | _
      rotate_left
      · go_wp2
        exact bodyPost_ret (v := .bool true) (by simp [results, Try.results4, go_sem]) rfl ⟨rfl, HBok.out.bel⟩
      go_wp2_with fail
      refine (held_any 1 w1 b K HBok.out.i).mono ?_
      rintro e w5 ⟨rfl, hw5⟩
      rw [hw5]
      clear hw5 w5
      rcases hh1 : K.held 1 with _ | _
      rotate_left
      · go_wp2
        exact bodyPost_ret (v := .bool true) (by simp [results, Try.results4, go_sem]) rfl ⟨rfl, HBok.out.bel⟩
      go_wp2_with fail
      refine (held_any 2 w1 b K HBok.out.i).mono ?_
      rintro e w5 ⟨rfl, hw5⟩
      rw [hw5]
      clear hw5 w5
      rcases hh2 : K.held 2 with _ | _
      rotate_left
      · go_wp2
        exact bodyPost_ret (v := .bool true) (by simp [results, Try.results4, go_sem]) rfl ⟨rfl, HBok.out.bel⟩
      go_wp2_with fail
      refine (held_any 3 w1 b K HBok.out.i).mono ?_
      rintro e w5 ⟨rfl, hw5⟩
      rw [hw5]
      clear hw5 w5
      rcases hh3 : K.held 3 with _ | _
      rotate_left
      · go_wp2
        exact bodyPost_ret (v := .bool true) (by simp [results, Try.results4, go_sem]) rfl ⟨rfl, HBok.out.bel⟩
      go_wp2_with fail
      obtain ⟨db, hdb⟩ : ∃ x, x = w1.heap.size := ⟨_, rfl⟩
      obtain ⟨old, hold⟩ : ∃ x, x = K.now := ⟨_, rfl⟩
      have hal : Below w1.heap.size w1 (w1.alloc (.cells #[.bool false, .bool false, .bool false, .bool false] 54)) := (Below.refl _ _).alloc (Nat.le_refl _) _
      have HBd := hid (HBok.out.below hal)
      have HXd : Hid (Box (w1.alloc (.cells #[.bool false, .bool false, .bool false, .bool false] 54)) db #[.bool false, .bool false, .bool false, .bool false] 54 ∧ ¬ K.C b db) := by
        unfold Hid
        rw [hdb]
        exact ⟨Box.new _ _ _, fun e => by have := HBok.out.i.lt e; omega⟩
      have HRd := hid (And.intro (HRx.out.1.below hal) HRx.out.2)
      have hdw : w.heap.size < db := by rw [hdb]; exact HRx.out.1.lt
      have HJ0 : Hid (MJ K old N (fun _ => false)) := by
        unfold Hid
        rw [hold]
        refine MJ.start HPo.out HBok.out.i.n0 (by omega) (fun p hp => ?_) hN4
        rcases (by omega : p = 0 ∨ p = 1 ∨ p = 2 ∨ p = 3) with rfl | rfl | rfl | rfl
        · exact hh0
        · exact hh1
        · exact hh2
        · exact hh3
      have HLg0 : Hid (LgN K 6000000) := HLgN.out.le (by omega)
      rw [← hold, ← hdb]
      have hdbs : (w1.alloc (.cells #[.bool false, .bool false, .bool false, .bool false] 54)).heap.size = db + 1 := by rw [hdb]; simp
      have hcz : cntU (fun _ => false) N = N := by
        have h : ∀ M, cntU (fun _ => false) M = M := fun M => by
          induction M with
          | zero => rfl
          | succ M ih => rw [cntU_succ, ih]; rfl
        exact h N
      have HCz := hid hcz
      clear hal hh0 hh1 hh2 hh3 h9 hold hdb HBok HRx HLgN HPo hcz hdbs
      generalize w1.alloc (.cells #[.bool false, .bool false, .bool false, .bool false] 54) = wd at HBd HXd HRd ⊢
      go_loopw [19, 20] (fun xl xi wr => ∃ (i : Nat) (d : Nat → Bool) (K : Bk), i ≤ on + N ∧ xl = .int .i64 ((cntU d N : Nat) : Int) ∧ xi = .int .i64 (i : Int) ∧ Bok w wr b K ∧ MJ K old N d ∧ (∀ p, N ≤ p → d p = false) ∧ (∀ p, on + p < i → p < N → d p = true) ∧ Box wr db #[.bool (d 0), .bool (d 1), .bool (d 2), .bool (d 3)] 54 ∧ ¬ K.C b db ∧ Box wr w.heap.size #[.string r.key, .int .i64 r.v.kind, .int .i64 r.v.int, .string r.v.text, .slice r.v.p r.v.n r.v.c, .slice r.p r.n r.c] 36 ∧ ¬ K.C b w.heap.size ∧ LgN K (6000000 + 50000 * (N - cntU d N))) (fun _ x _ => on + N - (intOf x).toNat)
      case atStart => exact ⟨0, fun _ => false, K, Nat.zero_le _, by rw [HCz.out], rfl, HBd.out, HJ0.out, fun _ _ => rfl, fun p hp => absurd hp (by omega), HXd.out.1, HXd.out.2, HRd.out.1, HRd.out.2, HLg0.out.le (by omega)⟩
      case round =>
        clear HBd HXd HRd HJ0 HLg0 HCz
        obtain ⟨i, d, K, hi, rfl, rfl, i1, i2, hdo, hdn, i3, i4, i5, i6, i7⟩ := hrel
        have HBok2 := hid i1
        have HJ := hid i2
        have HDb := hid (And.intro i3 i4)
        have HRx2 := hid (And.intro i5 i6)
        have HLg2 := hid i7
        have idl := i3.lt
        have ibl := i1.i.box.lt
        have hcl := cntU_le d N
        clear i1 i2 i3 i4 i5 i6 i7
        by_cases hc1 : i < on + N
        rotate_left
        · have hc1' : ¬ (i : Int) < (on : Int) + (N : Int) := by omega
          have hall : ∀ p, p < N → d p = true := fun p hp => hdn p (by omega) hp
          go_wp2_with fail
          refine (part_any wr b K HBok2.out.i).mono ?_
          rintro e w7 ⟨K7, hP⟩
          obtain ⟨e1, e2, e3⟩ := HJ.out.end_ (by omega) hall
          obtain ⟨rfl, pL, cL, rfl, _⟩ := hP.y e3
          have hpt : K.ports.toNat = N := by rw [HJ.out.ports]; omega
          rw [e1, e2, hpt]
          have H7 := hid ((HBok2.out.step hP.s).below ((Below.refl w7.heap.size w7).alloc (Nat.le_refl _) (.cells #[.int .i64 5, .slice K.cl.p K.cl.n K.cl.c, .slice pL N cL, .slice K.pd.p K.pd.n K.pd.c] 49)))
          have ho0 := HJ.out.o0
          have ho1 := HJ.out.o1
          clear hP e1 e2 e3 hpt
          go_wp2
          exact bodyPost_ret (v := .bool true) (by simp [results, Try.results4, go_sem]) rfl ⟨rfl, H7.out.bel⟩
        have hc1' : (i : Int) < (on : Int) + (N : Int) := by omega
        by_cases hc2 : 0 < cntU d N
        rotate_left
        · have hc2' : ¬ (0 : Int) < ((cntU d N : Nat) : Int) := by omega
          have hall : ∀ p, p < N → d p = true := cntU_all d N (by omega)
          go_wp2_with fail
          refine (part_any wr b K HBok2.out.i).mono ?_
          rintro e w7 ⟨K7, hP⟩
          obtain ⟨e1, e2, e3⟩ := HJ.out.end_ (by omega) hall
          obtain ⟨rfl, pL, cL, rfl, _⟩ := hP.y e3
          have hpt : K.ports.toNat = N := by rw [HJ.out.ports]; omega
          rw [e1, e2, hpt]
          have H7 := hid ((HBok2.out.step hP.s).below ((Below.refl w7.heap.size w7).alloc (Nat.le_refl _) (.cells #[.int .i64 5, .slice K.cl.p K.cl.n K.cl.c, .slice pL N cL, .slice K.pd.p K.pd.n K.pd.c] 49)))
          have ho0 := HJ.out.o0
          have ho1 := HJ.out.o1
          clear hP e1 e2 e3 hpt
          go_wp2
          exact bodyPost_ret (v := .bool true) (by simp [results, Try.results4, go_sem]) rfl ⟨rfl, H7.out.bel⟩
        have hc2' : (0 : Int) < ((cntU d N : Nat) : Int) := by omega
        by_cases hio : i < on
        · obtain ⟨ob, oo, hop, hoS, hol, hoat⟩ := HOr.out.at_ (by omega)
          have co : wr.cell? ⟨ob, oo + i, none⟩ = some (.int .i64 (of i)) := (World.cell?_of_block (a := ⟨ob, oo + i, none⟩) (HBok2.out.bel.block ob hol)).trans (hoat i hio)
          rw [hop]
          clear hoat hop
          have hio' : (i : Int) < (on : Int) := by omega
          by_cases h1 : of i < 0
          · go_wp2
            go_roundw
            case rel => exact ⟨i + 1, d, K, by omega, rfl, by go_num, HBok2.out, HJ.out, hdo, fun p hp1 hp2 => by exact hdn p (by omega) hp2, HDb.out.1, HDb.out.2, HRx2.out.1, HRx2.out.2, HLg2.out⟩
            case measure => simp [intOf]; omega
          by_cases h2 : (N : Int) ≤ of i
          · go_wp2
            go_roundw
            case rel => exact ⟨i + 1, d, K, by omega, rfl, by go_num, HBok2.out, HJ.out, hdo, fun p hp1 hp2 => by exact hdn p (by omega) hp2, HDb.out.1, HDb.out.2, HRx2.out.1, HRx2.out.2, HLg2.out⟩
            case measure => simp [intOf]; omega
          obtain ⟨pn, hpn⟩ : ∃ pn : Nat, of i = (pn : Int) := ⟨(of i).toNat, by omega⟩
          rw [hpn] at co
          have hpN : pn < N := by omega
          clear h1 h2 hpn
          have hpN' : ¬ (N : Int) ≤ (pn : Int) := by omega
          have hp4 : (pn : Int) < 4 := by omega
          have dp := dcell HDb.out.1 (show pn < 4 by omega)
          rcases hd : d pn with _ | _
          rotate_left
          · rw [hd] at dp
            go_wp2
            go_roundw
            case rel => exact ⟨i + 1, d, K, by omega, rfl, by go_num, HBok2.out, HJ.out, hdo, fun p hp1 hp2 => by exact hdn p (by omega) hp2, HDb.out.1, HDb.out.2, HRx2.out.1, HRx2.out.2, HLg2.out⟩
            case measure => simp [intOf]; omega
          rw [hd] at dp
          have htk := HJ.out.held hpN hd
          clear htk
          go_wp2_with fail
          obtain ⟨wo, hwo⟩ : ∃ x : World, x = wr := ⟨_, rfl⟩
          subst hwo
          go_loopw [22] (fun xq wi => ∃ (q : Nat) (K2 : Bk), q ≤ N ∧ xq = .int .i64 (q : Int) ∧ Bok w wi b K2 ∧ MJ K2 old N d ∧ LgN K2 (6000000 + 50000 * (N - cntU d N) + 10000 * q) ∧ Box wi db #[.bool (d 0), .bool (d 1), .bool (d 2), .bool (d 3)] 54 ∧ ¬ K2.C b db ∧ Box wi w.heap.size #[.string r.key, .int .i64 r.v.kind, .int .i64 r.v.int, .string r.v.text, .slice r.v.p r.v.n r.v.c, .slice r.p r.n r.c] 36 ∧ ¬ K2.C b w.heap.size) (fun x _ => N - (intOf x).toNat)
          case atStart => exact ⟨0, K, Nat.zero_le _, rfl, HBok2.out, HJ.out, HLg2.out.le (by omega), HDb.out.1, HDb.out.2, HRx2.out.1, HRx2.out.2⟩
          case round =>
            obtain ⟨q, K2, hq, rfl, i1, i2, i3, i4, i5, i6, i7⟩ := hrel
            have J1 := hid i1
            have J2 := hid i2
            have J3 := hid i3
            have J4 := hid (And.intro i4 i5)
            have J6 := hid (And.intro i6 i7)
            have il := i4.lt
            have irl := i6.lt
            have ib := i1.i.box.lt
            have r0 := i6.cell 0
            have r1 := i6.cell 1
            have r2 := i6.cell 2
            have r3 := i6.cell 3
            have r4 := i6.cell 4
            have r5 := i6.cell 5
            simp at r0 r1 r2 r3 r4 r5
            clear i1 i2 i3 i5 i6 i7
            by_cases hqN : q < N
            · have hqN' : (q : Int) < (N : Int) := by omega
              have hq4 : (q : Int) < 4 := by omega
              have dq := dcell i4 (show q < 4 by omega)
              clear i4
              rcases hdq : d q with _ | _
              · rw [hdq] at dq
                have HT := hid (took_any (q : Int) r wr (fun b => b < w.heap.size) b K2 J1.out.i (HRr.out.kept J1.out.bel.size (fun b hb _ => J1.out.bel.block b hb)) HRs.out (fun i hi => by have := J3.out i hi; omega))
                go_wp2_with (first | (go_at_call 14; refine HT.out.mono ?_; rintro e w7 ⟨K7, rfl, hQ⟩; rw [J2.out.tookE hqN hdq]) | (go_at_call 11; refine (num_any _ _).mono ?_; rintro e w8 ⟨rfl, rfl⟩))
                have o1 := hQ.s.out J4.out.1.lt J4.out.2
                have o2 := hQ.s.out J6.out.1.lt J6.out.2
                have H7 := hid (And.intro (J1.out.step hQ.s) (And.intro (J2.out.took hQ) (And.intro (J3.out.took hQ) (And.intro (J4.out.1.kept o1.1) (And.intro o1.2.1 (And.intro (J6.out.1.kept o2.1) o2.2.1))))))
                clear hQ HT o1 o2
                go_roundw
                case rel => exact ⟨q + 1, K7, by omega, by go_num, H7.out.1, H7.out.2.1, H7.out.2.2.1.le (by omega), H7.out.2.2.2.1, H7.out.2.2.2.2.1, H7.out.2.2.2.2.2.1, H7.out.2.2.2.2.2.2⟩
                case measure => simp [intOf]; omega
              · rw [hdq] at dq
                go_wp2
                go_roundw
                case rel => exact ⟨q + 1, K2, by omega, by go_num, J1.out, J2.out, J3.out.le (by omega), J4.out.1, J4.out.2, J6.out.1, J6.out.2⟩
                case measure => simp [intOf]; omega
            · obtain rfl : q = N := by omega
              have hqN' : ¬ (q : Int) < (q : Int) := by omega
              have hmk := mark_any (pn : Int) (old + 1) (nilL fun _ => rt0) 5 (nilL fun _ => .nil) (nilL fun _ => rt0) wr (fun _ => False) b K2 J1.out.i (fun _ hx => hx.elim) (nilC_in _ _ _) (nilR_in _ _ _) (nilC_sz _) (nilR_sz _) (nilR_in _ _ _) (nilR_sz _) (fun i hi => by have := J3.out i hi; omega)
              have hre : K2.refE (pn : Int) (old + 1) = 0 := by
                have h0 := J2.out.o0
                have h1 := J2.out.o1
                rw [Bk.refE, if_neg (by rw [J2.out.hasP hpN]; decide), if_neg (by omega), if_neg (by rw [J2.out.held hpN hd]; decide)]
              rw [hre] at hmk
              have HMk := hid hmk
              have ho0 := J2.out.o0
              have ho1 := J2.out.o1
              clear hmk hre i4
              go_wp2_with fail
              refine HMk.out.mono ?_
              rintro e w7 ⟨K7, r7, rfl, hQ⟩
              have o1 := hQ.s.out J4.out.1.lt J4.out.2
              have o2 := hQ.s.out J6.out.1.lt J6.out.2
              have hX7 := J4.out.1.kept o1.1
              have d7 := dcell hX7 (show pn < 4 by omega)
              have f7 := hX7.frozen pn
              have l7 := hX7.lt
              have hbt : But (fun k => k = db) w7 (w7.setCell ⟨db, pn, none⟩ (.bool true)) := (But.one w7 db).setAt pn _
              have h7 := (J1.out.step hQ.s).other hbt o1.2.1 (by omega)
              have hd7 : Box (w7.setCell ⟨db, pn, none⟩ (.bool true)) db #[.bool (setD d pn 0), .bool (setD d pn 1), .bool (setD d pn 2), .bool (setD d pn 3)] 54 := by
                have h := hX7.set pn (.bool true)
                rwa [dset d (show pn < 4 by omega)] at h
              have hcu := cntU_set d pn hd q hpN
              have hle := cntU_le d q
              have H7 := hid (And.intro h7 (And.intro (J2.out.mark hpN hd hQ) (And.intro (J3.out.mark (nilR_sz _) hQ) (And.intro hd7 (And.intro o1.2.1 (And.intro ((J6.out.1.kept o2.1).kept (hbt.block _ o2.2.2 (by omega))) o2.2.1))))))
              clear hQ o1 o2 hX7 hbt h7 hd7 HMk
              go_wp2_with (go_at_call 11; refine (num_any _ _).mono ?_; rintro e w8 ⟨rfl, rfl⟩)
              go_roundw
              case rel => exact ⟨i + 1, setD d pn, K7, by omega, by go_num, by go_num, H7.out.1, H7.out.2.1, fun p hp => by (have := hdo p hp); simp only [setD]; rw [if_neg (by omega)]; exact this, fun p hp1 hp2 => by (by_cases e : p = pn; subst e; simp [setD]; simp only [setD, if_neg e]; exact hdn p (by omega) hp2), H7.out.2.2.2.1, H7.out.2.2.2.2.1, H7.out.2.2.2.2.2.1, H7.out.2.2.2.2.2.2, H7.out.2.2.1.le (by omega)⟩
              case measure => simp [intOf]; omega
        · have hio' : ¬ (i : Int) < (on : Int) := by omega
          obtain ⟨pn, hpn⟩ : ∃ pn : Nat, i = on + pn := ⟨i - on, by omega⟩
          have hpn' : (i : Int) - (on : Int) = (pn : Int) := by omega
          have hpN : pn < N := by omega
          have HPn := hid hpn
          clear hpn
          have hpN' : ¬ (N : Int) ≤ (pn : Int) := by omega
          have hp4 : (pn : Int) < 4 := by omega
          have dp := dcell HDb.out.1 (show pn < 4 by omega)
          rcases hd : d pn with _ | _
          rotate_left
          · rw [hd] at dp
            go_wp2
            go_roundw
            case rel => exact ⟨i + 1, d, K, by omega, rfl, by go_num, HBok2.out, HJ.out, hdo, fun p hp1 hp2 => by (by_cases e : p = pn; subst e; exact hd; exact hdn p (by have := HPn.out; omega) hp2), HDb.out.1, HDb.out.2, HRx2.out.1, HRx2.out.2, HLg2.out⟩
            case measure => simp [intOf]; omega
          rw [hd] at dp
          have htk := HJ.out.held hpN hd
          clear htk
          go_wp2_with fail
          obtain ⟨wo, hwo⟩ : ∃ x : World, x = wr := ⟨_, rfl⟩
          subst hwo
          go_loopw [22] (fun xq wi => ∃ (q : Nat) (K2 : Bk), q ≤ N ∧ xq = .int .i64 (q : Int) ∧ Bok w wi b K2 ∧ MJ K2 old N d ∧ LgN K2 (6000000 + 50000 * (N - cntU d N) + 10000 * q) ∧ Box wi db #[.bool (d 0), .bool (d 1), .bool (d 2), .bool (d 3)] 54 ∧ ¬ K2.C b db ∧ Box wi w.heap.size #[.string r.key, .int .i64 r.v.kind, .int .i64 r.v.int, .string r.v.text, .slice r.v.p r.v.n r.v.c, .slice r.p r.n r.c] 36 ∧ ¬ K2.C b w.heap.size) (fun x _ => N - (intOf x).toNat)
          case atStart => exact ⟨0, K, Nat.zero_le _, rfl, HBok2.out, HJ.out, HLg2.out.le (by omega), HDb.out.1, HDb.out.2, HRx2.out.1, HRx2.out.2⟩
          case round =>
            obtain ⟨q, K2, hq, rfl, i1, i2, i3, i4, i5, i6, i7⟩ := hrel
            have J1 := hid i1
            have J2 := hid i2
            have J3 := hid i3
            have J4 := hid (And.intro i4 i5)
            have J6 := hid (And.intro i6 i7)
            have il := i4.lt
            have irl := i6.lt
            have ib := i1.i.box.lt
            have r0 := i6.cell 0
            have r1 := i6.cell 1
            have r2 := i6.cell 2
            have r3 := i6.cell 3
            have r4 := i6.cell 4
            have r5 := i6.cell 5
            simp at r0 r1 r2 r3 r4 r5
            clear i1 i2 i3 i5 i6 i7
            by_cases hqN : q < N
            · have hqN' : (q : Int) < (N : Int) := by omega
              have hq4 : (q : Int) < 4 := by omega
              have dq := dcell i4 (show q < 4 by omega)
              clear i4
              rcases hdq : d q with _ | _
              · rw [hdq] at dq
                have HT := hid (took_any (q : Int) r wr (fun b => b < w.heap.size) b K2 J1.out.i (HRr.out.kept J1.out.bel.size (fun b hb _ => J1.out.bel.block b hb)) HRs.out (fun i hi => by have := J3.out i hi; omega))
                go_wp2_with (first | (go_at_call 14; refine HT.out.mono ?_; rintro e w7 ⟨K7, rfl, hQ⟩; rw [J2.out.tookE hqN hdq]) | (go_at_call 11; refine (num_any _ _).mono ?_; rintro e w8 ⟨rfl, rfl⟩))
                have o1 := hQ.s.out J4.out.1.lt J4.out.2
                have o2 := hQ.s.out J6.out.1.lt J6.out.2
                have H7 := hid (And.intro (J1.out.step hQ.s) (And.intro (J2.out.took hQ) (And.intro (J3.out.took hQ) (And.intro (J4.out.1.kept o1.1) (And.intro o1.2.1 (And.intro (J6.out.1.kept o2.1) o2.2.1))))))
                clear hQ HT o1 o2
                go_roundw
                case rel => exact ⟨q + 1, K7, by omega, by go_num, H7.out.1, H7.out.2.1, H7.out.2.2.1.le (by omega), H7.out.2.2.2.1, H7.out.2.2.2.2.1, H7.out.2.2.2.2.2.1, H7.out.2.2.2.2.2.2⟩
                case measure => simp [intOf]; omega
              · rw [hdq] at dq
                go_wp2
                go_roundw
                case rel => exact ⟨q + 1, K2, by omega, by go_num, J1.out, J2.out, J3.out.le (by omega), J4.out.1, J4.out.2, J6.out.1, J6.out.2⟩
                case measure => simp [intOf]; omega
            · obtain rfl : q = N := by omega
              have hqN' : ¬ (q : Int) < (q : Int) := by omega
              have hmk := mark_any (pn : Int) (old + 1) (nilL fun _ => rt0) 5 (nilL fun _ => .nil) (nilL fun _ => rt0) wr (fun _ => False) b K2 J1.out.i (fun _ hx => hx.elim) (nilC_in _ _ _) (nilR_in _ _ _) (nilC_sz _) (nilR_sz _) (nilR_in _ _ _) (nilR_sz _) (fun i hi => by have := J3.out i hi; omega)
              have hre : K2.refE (pn : Int) (old + 1) = 0 := by
                have h0 := J2.out.o0
                have h1 := J2.out.o1
                rw [Bk.refE, if_neg (by rw [J2.out.hasP hpN]; decide), if_neg (by omega), if_neg (by rw [J2.out.held hpN hd]; decide)]
              rw [hre] at hmk
              have HMk := hid hmk
              have ho0 := J2.out.o0
              have ho1 := J2.out.o1
              clear hmk hre i4
              go_wp2_with fail
              refine HMk.out.mono ?_
              rintro e w7 ⟨K7, r7, rfl, hQ⟩
              have o1 := hQ.s.out J4.out.1.lt J4.out.2
              have o2 := hQ.s.out J6.out.1.lt J6.out.2
              have hX7 := J4.out.1.kept o1.1
              have d7 := dcell hX7 (show pn < 4 by omega)
              have f7 := hX7.frozen pn
              have l7 := hX7.lt
              have hbt : But (fun k => k = db) w7 (w7.setCell ⟨db, pn, none⟩ (.bool true)) := (But.one w7 db).setAt pn _
              have h7 := (J1.out.step hQ.s).other hbt o1.2.1 (by omega)
              have hd7 : Box (w7.setCell ⟨db, pn, none⟩ (.bool true)) db #[.bool (setD d pn 0), .bool (setD d pn 1), .bool (setD d pn 2), .bool (setD d pn 3)] 54 := by
                have h := hX7.set pn (.bool true)
                rwa [dset d (show pn < 4 by omega)] at h
              have hcu := cntU_set d pn hd q hpN
              have hle := cntU_le d q
              have H7 := hid (And.intro h7 (And.intro (J2.out.mark hpN hd hQ) (And.intro (J3.out.mark (nilR_sz _) hQ) (And.intro hd7 (And.intro o1.2.1 (And.intro ((J6.out.1.kept o2.1).kept (hbt.block _ o2.2.2 (by omega))) o2.2.1))))))
              clear hQ o1 o2 hX7 hbt h7 hd7 HMk
              go_wp2_with (go_at_call 11; refine (num_any _ _).mono ?_; rintro e w8 ⟨rfl, rfl⟩)
              go_roundw
              case rel => exact ⟨i + 1, setD d pn, K7, by omega, by go_num, by go_num, H7.out.1, H7.out.2.1, fun p hp => by (have := hdo p hp); simp only [setD]; rw [if_neg (by omega)]; exact this, fun p hp1 hp2 => by (by_cases e : p = pn; subst e; simp [setD]; simp only [setD, if_neg e]; exact hdn p (by have := HPn.out; omega) hp2), H7.out.2.2.2.1, H7.out.2.2.2.2.1, H7.out.2.2.2.2.2.1, H7.out.2.2.2.2.2.2, H7.out.2.2.1.le (by omega)⟩
              case measure => simp [intOf]; omega
    have hlt6' : (k : Int) < 600 := by omega
    obtain ⟨bb, o, hp, hSb, hbb, hat⟩ := HI.out.at_ (by omega)
    rw [hp]
    have hcell : ∀ r u, (elOp.cells (s.item k))[r]? = some u → wr.cell? ⟨bb, o + k * 14 + r, none⟩ = some u := fun r u hu => (World.cell?_of_block (a := ⟨bb, o + k * 14 + r, none⟩) (HBok.out.bel.block bb hbb)).trans (hat k hlt r u hu)
    have c0 : wr.cell? ⟨bb, o + k * 14, none⟩ = some (.int .i64 (s.item k).kind) := hcell 0 _ rfl
    have c1 : wr.cell? ⟨bb, o + k * 14 + 1, none⟩ = some (.int .i64 (s.item k).which) := hcell 1 _ rfl
    have c2 : wr.cell? ⟨bb, o + k * 14 + 2, none⟩ = some (.int .i64 (s.item k).port) := hcell 2 _ rfl
    have c3 : wr.cell? ⟨bb, o + k * 14 + 3, none⟩ = some (.int .i64 (s.item k).id) := hcell 3 _ rfl
    have c4 : wr.cell? ⟨bb, o + k * 14 + 4, none⟩ = some (.string (s.item k).r.key) := hcell 4 _ rfl
    have c5 : wr.cell? ⟨bb, o + k * 14 + 5, none⟩ = some (.int .i64 (s.item k).r.v.kind) := hcell 5 _ rfl
    have c6 : wr.cell? ⟨bb, o + k * 14 + 6, none⟩ = some (.int .i64 (s.item k).r.v.int) := hcell 6 _ rfl
    have c7 : wr.cell? ⟨bb, o + k * 14 + 7, none⟩ = some (.string (s.item k).r.v.text) := hcell 7 _ rfl
    have c8 : wr.cell? ⟨bb, o + k * 14 + 8, none⟩ = some (.slice (s.item k).r.v.p (s.item k).r.v.n (s.item k).r.v.c) := hcell 8 _ rfl
    have c9 : wr.cell? ⟨bb, o + k * 14 + 9, none⟩ = some (.slice (s.item k).r.p (s.item k).r.n (s.item k).r.c) := hcell 9 _ rfl
    have c10 : wr.cell? ⟨bb, o + k * 14 + 10, none⟩ = some (.slice (s.item k).a.p (s.item k).a.n (s.item k).a.c) := hcell 10 _ rfl
    have c11 : wr.cell? ⟨bb, o + k * 14 + 11, none⟩ = some (.slice (s.item k).q.p (s.item k).q.n (s.item k).q.c) := hcell 11 _ rfl
    have c12 : wr.cell? ⟨bb, o + k * 14 + 12, none⟩ = some (.int .i64 (s.item k).num) := hcell 12 _ rfl
    have c13 : wr.cell? ⟨bb, o + k * 14 + 13, none⟩ = some (.slice (s.item k).l.p (s.item k).l.n (s.item k).l.c) := hcell 13 _ rfl
    have HIn : Hid (∀ V, Below w.heap.size w V → OpT.In V (fun b => b < w.heap.size) (s.item k)) := fun V hV => (OpT.at_ HI.out hlt).kept hV.size (fun b hb _ => hV.block b hb)
    have HOs := hid (HSz2.out k hlt)
    clear hcell hat hp
    have hal : Below wr.heap.size wr (wr.alloc (.cells #[.int .i64 (s.item k).kind, .int .i64 (s.item k).which, .int .i64 (s.item k).port, .int .i64 (s.item k).id, .string (s.item k).r.key, .int .i64 (s.item k).r.v.kind, .int .i64 (s.item k).r.v.int, .string (s.item k).r.v.text, .slice (s.item k).r.v.p (s.item k).r.v.n (s.item k).r.v.c, .slice (s.item k).r.p (s.item k).r.n (s.item k).r.c, .slice (s.item k).a.p (s.item k).a.n (s.item k).a.c, .slice (s.item k).q.p (s.item k).q.n (s.item k).q.c, .int .i64 (s.item k).num, .slice (s.item k).l.p (s.item k).l.n (s.item k).l.c] 42)) := (Below.refl _ _).alloc (Nat.le_refl _) _
    have H3 := hid (And.intro (HBok.out.below hal) (HRx.out.1.below hal))
    have HX3 := hid (Box.new wr #[.int .i64 (s.item k).kind, .int .i64 (s.item k).which, .int .i64 (s.item k).port, .int .i64 (s.item k).id, .string (s.item k).r.key, .int .i64 (s.item k).r.v.kind, .int .i64 (s.item k).r.v.int, .string (s.item k).r.v.text, .slice (s.item k).r.v.p (s.item k).r.v.n (s.item k).r.v.c, .slice (s.item k).r.p (s.item k).r.n (s.item k).r.c, .slice (s.item k).a.p (s.item k).a.n (s.item k).a.c, .slice (s.item k).q.p (s.item k).q.n (s.item k).q.c, .int .i64 (s.item k).num, .slice (s.item k).l.p (s.item k).l.n (s.item k).l.c] 42)
    have HnC : Hid (¬ K.C b wr.heap.size) := fun e => by have := HBok.out.i.lt e; omega
    clear hal
    by_cases k1 : (s.item k).kind = 1
    · rw [k1] at c0
      have HT := hid (took_any (s.item k).port (s.item k).r _ (fun b => b < w.heap.size) b K H3.out.1.i (HIn.out _ H3.out.1.bel).r HOs.out.r (fun i hi => by have := HLgN.out i hi; omega))
      rw [k1] at HT H3 HX3
      go_wp2_with fail
      refine HT.out.mono ?_
      rintro e w4 ⟨K4, rfl, hQ⟩
      have h4 := H3.out.1.step hQ.s
      have ho := hQ.s.out H3.out.2.lt HRx.out.2
      have hpk : K4.ports = (N : Int) := by
        rcases e : K.lays (s.item k).port with _ | _
        · rw [hQ.n e]; exact HPo.out
        · obtain ⟨u, p, cc, _, _, rfl⟩ := hQ.y e; exact HPo.out
      have H4 := hid (And.intro h4 (And.intro hpk (And.intro (HLgN.out.took hQ) (And.intro (H3.out.2.kept ho.1) ho.2.1))))
      have hX4 := HX3.out.kept (hQ.s.but.block _ HX3.out.lt HnC.out)
      have y0 := hX4.cell 0
      have hl4 := hX4.lt
      simp at y0
      clear hQ HT h4 ho hpk hX4 c0 c1 c2 c3 c4 c5 c6 c7 c8 c9 c10 c11 c12 c13
      go_wp2
      go_roundw
      case rel => exact ⟨k + 1, K4, by omega, by omega, by go_num, H4.out.1, H4.out.2.1, H4.out.2.2.1.le (by omega), H4.out.2.2.2.1, H4.out.2.2.2.2⟩
      case measure => simp [intOf]; omega
    have k1' : ((s.item k).kind == 1) = false := by simp [k1]
    by_cases k2 : (s.item k).kind = 2
    · rw [k2] at c0 k1'
      have HT := hid (mark_any (s.item k).port (s.item k).id (s.item k).a (s.item k).num (s.item k).l (s.item k).q _ (fun b => b < w.heap.size) b K H3.out.1.i (fun x hx e => by have := HBok.out.c x e; omega) (HIn.out _ H3.out.1.bel).l (HIn.out _ H3.out.1.bel).q HOs.out.l HOs.out.q (HIn.out _ H3.out.1.bel).a HOs.out.a (fun i hi => by have := HLgN.out i hi; omega))
      rw [k2] at HT H3
      go_wp2_with fail
      refine HT.out.mono ?_
      rintro e w4 ⟨K4, r4, rfl, hQ⟩
      have h4 := H3.out.1.step hQ.s
      have ho := hQ.s.out H3.out.2.lt HRx.out.2
      have hpk : K4.ports = (N : Int) := by
        rcases e : K.marks (s.item k).port (s.item k).id with _ | _
        · rw [(hQ.n e).1]; exact HPo.out
        · obtain ⟨w1, _, _, hq⟩ := hQ.y e
          rw [hq.b.ports]
          unfold Bk.base
          split <;> exact HPo.out
      have H4 := hid (And.intro h4 (And.intro hpk (And.intro (HLgN.out.mark HOs.out.a hQ) (And.intro (H3.out.2.kept ho.1) ho.2.1))))
      clear hQ HT h4 ho hpk c0 c1 c2 c3 c4 c5 c6 c7 c8 c9 c10 c11 c12 c13
      go_wp2
      go_roundw
      case rel => exact ⟨k + 1, K4, by omega, by omega, by go_num, H4.out.1, H4.out.2.1, H4.out.2.2.1.le (by omega), H4.out.2.2.2.1, H4.out.2.2.2.2⟩
      case measure => simp [intOf]; omega
    have k2' : ((s.item k).kind == 2) = false := by simp [k2]
    go_wp2
    go_roundw
    case rel => exact ⟨k + 1, K, by omega, by omega, by go_num, H3.out.1, HPo.out, HLgN.out.le (by omega), H3.out.2, HRx.out.2⟩
    case measure => simp [intOf]; omega
end Go.Proofs.Ytnbcidlmckmaaaa
