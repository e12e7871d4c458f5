import Derived.Test.YtoefbcagokgfcaaUdE
import Derived.Test.YtoefbcagokgfcaaUaG
namespace Go.Proofs.Ytoefbcagokgfcaa
open Go.RowKit
set_option maxRecDepth 8000
def RFlipQ (w : World) (Z : Nat → Prop) (rb : Nat) (m : Int) (A : List FA) (N : Nat) (i bit : Int) (e : Ending) (w' : World) : Prop :=
  (¬ canF A i bit → e = .returned (.bool false) ∧ RfA w' Z rb m A N ∧ Fr Z w w') ∧ (canF A i bit → e = .returned (.bool true) ∧ (∃ a, A[i.toNat]? = some a ∧ RfA w' Z rb m (A.set i.toNat (a.flip bit.toNat)) N) ∧ Fr Z w w')
/-- the bytes with one turned -/
def flipF (f : Nat → Int) (q : Nat) (z : Int) (j : Nat) : Int := if j = q then z else f j
theorem flipF_zs (n : Nat) (f : Nat → Int) (q r : Nat) (hq : q < n) : (List.range n).map (flipF f q (flipB (f q) r)) = ((List.range n).map f).set q (flipB (((List.range n).map f).getD q 0) r) := by
  apply List.ext_getElem?
  intro j
  by_cases hj : j = q
  · subst hj
    rw [List.getElem?_set_self (by simpa using hq)]
    simp [List.getElem?_range hq, flipF, List.getD_eq_getElem?_getD]
  · rw [List.getElem?_set_ne (fun e => hj e.symm)]
    by_cases hjn : j < n
    · simp [List.getElem?_range hjn, flipF, hj]
    · rw [List.getElem?_eq_none (by simp; omega), List.getElem?_eq_none (by simp; omega)]
theorem flat4_one : ∀ (P : List PK) (k : Nat) (x : PK) (y : BY), P[k]? = some x → (P.set k ⟨x.fr, x.tt, y, x.out⟩).flatMap PK.cells = (P.flatMap PK.cells).set (k * 4 + 2) (.slice y.p y.n y.c)
  | [], k, x, y, h => by simp at h
  | z :: P, 0, x, y, h => by
    simp at h
    subst h
    simp [PK.cells]
  | z :: P, k + 1, x, y, h => by
    have ih := flat4_one P k x y (by simpa using h)
    have e : (z :: P).flatMap PK.cells = [.int .i64 z.fr, .int .i64 z.tt, .slice z.y.p z.y.n z.y.c, .bool z.out] ++ P.flatMap PK.cells := by simp [PK.cells]
    rw [List.set_cons_succ, List.flatMap_cons, ih, e]
    rw [show (k + 1) * 4 + 2 = (k * 4 + 2) + 4 by omega]
    simp [PK.cells]
set_option maxHeartbeats 8000000 in
/-- the reference's Flip -/
theorem rflip_any (w : World) (Z : Nat → Prop) (rb : Nat) (m : Int) (A : List FA) (N : Nat) (hA : RfA w Z rb m A N) (hZ : ∀ k, Z k → k < w.heap.size) (hN : N * 48 ≤ 140737488355328) (i bit : Int) (hib : i ≤ 9223372036854775807) (hb : bit ≤ 9223372036854775807) :
    Calls Try.prog 38 #[.pointer (some ⟨rb, 0, none⟩), .int .i64 i, .int .i64 bit] w fun e w' => RFlipQ w Z rb m A N i bit e w' := by
  have HEA := hid hA
  obtain ⟨v, P, hI, hPA, hPN⟩ := hA
  have HP := hid (rplace_any w Z rb m v P hI (by omega) i hib)
  rw [hPA] at HP
  have HI := hid hI
  have HZ := hid hZ
  have HPA := hid hPA
  have HPN := hid hPN
  clear hI hPA hPN hZ
  by_cases h1 : inA i A.length
  case neg =>
    have HI1 := hid h1
    clear h1 hb
    go_enter Try.func38, Try.ntmps38
    go_wp2_with fail
    refine HP.out.mono ?_
    rintro e w1 ⟨hw1, hq, _⟩
    subst w1
    obtain rfl := hq HI1.out
    clear hq HP
    go_wp2
    exact bodyPost_ret (v := .bool false) (by simp [results, Try.results38, go_sem]) rfl ⟨fun _ => ⟨rfl, HEA.out, Fr.refl _ _⟩, fun h => absurd h.1 HI1.out⟩
  case pos =>
    have HI1 := hid h1
    clear h1
    go_enter Try.func38, Try.ntmps38
    go_wp2_with fail
    refine HP.out.mono ?_
    rintro e w1 ⟨hw1, _, hq⟩
    subst w1
    obtain ⟨k, x, hPl, rfl⟩ := hq HI1.out
    have HPl := hid hPl
    clear hq HP hPl
    obtain ⟨g, cap, hv, hgl, c0, c1, c2, c3, hfz⟩ := HI.out.get HPl.out.at_
    subst hv
    have hkl : k < P.length := by
      rcases Nat.lt_or_ge k P.length with h | h
      · exact h
      · have := HPl.out.at_; rw [List.getElem?_eq_none h] at this; cases this
    have hkl' : (k : Int) < (P.length : Int) := by omega
    have hk0 : ¬ (k : Int) < 0 := by omega
    have b1 := HI.out.bx.cell 1
    simp at b1
    have bl := HI.out.bx.lt
    have hAx : A[i.toNat]? = some x.a := by rw [← HPA.out]; exact HPl.out.get
    have HAx := hid hAx
    clear hAx
    by_cases h2 : bit < 0
    case pos =>
      have HF : Hid (¬ canF A i bit) := fun h => by have := h.2.1; omega
      clear hb
      go_wp2
      exact bodyPost_ret (v := .bool false) (by simp [results, Try.results38, go_sem]) rfl ⟨fun _ => ⟨rfl, HEA.out, Fr.refl _ _⟩, fun h => absurd h HF.out⟩
    case neg =>
      obtain ⟨t, ht⟩ : ∃ t : Nat, bit = (t : Int) := ⟨bit.toNat, by omega⟩
      subst ht
      obtain ⟨q, hq⟩ : ∃ q : Nat, q = t / 8 := ⟨_, rfl⟩
      obtain ⟨r, hr⟩ : ∃ r : Nat, r = t % 8 := ⟨_, rfl⟩
      have hqi : (t : Int) / 8 = (q : Int) := by omega
      have hri : (t : Int) % 8 = (r : Int) := by omega
      have hwq : (q : Int) ≤ 9223372036854775807 := by omega
      have hqi' : (t : Int).tdiv 8 = (q : Int) := by rw [Int.tdiv_eq_ediv_of_nonneg (by omega)]; exact hqi
      have hri' : (t : Int).tmod 8 = (r : Int) := by rw [Int.tmod_eq_emod_of_nonneg (by omega)]; exact hri
      have ht0 : ¬ (t : Int) < 0 := by omega
      have hr8 : r < 8 := by omega
      have HQf := hid (And.intro hqi (And.intro hri (And.intro hwq (And.intro hqi' hri'))))
      have HQ := hid hq
      have HR := hid hr
      clear hqi hri hwq hqi' hri' hq hr h2
      have hyn : x.a.zs.length = x.y.n := BY.len x.y
      by_cases h3 : q < x.y.n
      case neg =>
        have HF : Hid (¬ canF A i (t : Int)) := fun h => by
          have := h.2.2 _ HAx.out
          rw [hyn] at this
          have := HQ.out
          omega
        have h3' : (x.y.n : Int) ≤ (q : Int) := by omega
        clear hb hyn
        obtain ⟨hqi, hri, hwq, hqi', hri'⟩ := HQf.out
        go_wp2
        exact bodyPost_ret (v := .bool false) (by simp [results, Try.results38, go_sem]) rfl ⟨fun _ => ⟨rfl, HEA.out, Fr.refl _ _⟩, fun h => absurd h HF.out⟩
      case pos =>
        have HF : Hid (canF A i (t : Int)) := ⟨HI1.out, by omega, fun a ha => by
          rw [HAx.out] at ha
          cases ha
          rw [hyn]
          have := HQ.out
          omega⟩
        have h3' : ¬ (x.y.n : Int) ≤ (q : Int) := by omega
        have hmem := List.mem_of_getElem? HPl.out.at_
        have hdat := HI.out.dat x hmem
        have HFr := hid (fresh_any x.y.p x.y.n x.y.c x.y.f w _ hdat)
        have hzb := hdat.fit q h3
        have hsz := HI.out.sz x hmem
        have HFit := hid hdat.fit
        have f2 := hfz (k * 4 + 2)
        clear hb hyn hmem hdat hfz
        obtain ⟨hqi, hri, hwq, hqi', hri'⟩ := HQf.out
        go_wp2_with fail
        refine HFr.out.mono ?_
        rintro e w2 ⟨p2, c2', rfl, ho2, hb2⟩
        have HO2 := hid ho2
        have HB2 := hid hb2
        clear ho2 hb2 HFr c0 c1 c2 c3 b1
        go_wp2_with fail
        go_loopw [9, 10] (fun a x wr => ∃ o j : Nat, a = .int .i64 (o : Int) ∧ x = .int .i64 (j : Int) ∧ j ≤ r ∧ o ≤ 128 ∧ o * 2 ^ j = 2 ^ r ∧ wr = w2) (fun _ x _ => (intOf x).toNat)
        case atStart => exact ⟨1, r, rfl, rfl, Nat.le_refl _, by omega, by simp, rfl⟩
        case round =>
          obtain ⟨o, j, rfl, rfl, hjr, ho, hoj, rfl⟩ := hrel
          have HOj := hid hoj
          clear hoj
          by_cases hj0 : 0 < j
          · have hj0' : (0 : Int) < (j : Int) := by omega
            obtain ⟨j1, hj1⟩ : ∃ j1, j = j1 + 1 := ⟨j - 1, by omega⟩
            subst hj1
            have HN : Hid (2 * o ≤ 128 ∧ (2 * o) * 2 ^ j1 = 2 ^ r) := by
              have h1 := HOj.out
              rw [Nat.pow_succ] at h1
              have h2 : 2 * o * 2 ^ j1 = 2 ^ r := by rw [← h1, Nat.mul_comm 2 o, Nat.mul_assoc, Nat.mul_comm 2]
              refine ⟨?_, h2⟩
              have h3 : 2 * o ≤ 2 * o * 2 ^ j1 := Nat.le_mul_of_pos_right _ (Nat.two_pow_pos _)
              have h4 : 2 ^ r ≤ 2 ^ 7 := Nat.pow_le_pow_right (by omega) (by omega)
              omega
            go_wp2
            go_roundw
            case rel => exact ⟨2 * o, j1, by go_num, by go_num, by omega, HN.out.1, HN.out.2, by first | rfl | trivial⟩
            case measure => simp [intOf]
          · obtain rfl : j = 0 := by omega
            have HO : Hid (o = 2 ^ r) := by
              have h1 := HOj.out
              simp at h1
              exact h1
            obtain ⟨z, hz⟩ : ∃ z, z = x.y.f q := ⟨_, rfl⟩
            rw [← hz] at hzb
            obtain ⟨gb, hp2, hgbl, z0, zf, hgbn⟩ : ∃ gb, p2 = some ⟨gb, 0, none⟩ ∧ gb < wr.heap.size ∧ wr.cell? ⟨gb, q, none⟩ = some (.int .u8 z) ∧ wr.frozen? ⟨gb, q, none⟩ = false ∧ w.heap.size ≤ gb := by
              have hce := @World.ownsRow.cells _ _ _ _ _ _ _ HO2.out
              have hlt := World.ownsRow.lt HO2.out
              obtain ⟨_, ⟨hv, h0⟩ | ⟨gb, cap', cur, hv, hbg, hh, _⟩⟩ := id HO2.out
              · omega
              · have h1 := (Value.slice.inj hv).1
                refine ⟨gb, h1, (hlt gb (by rw [hv]; rfl)).2, ?_, (show Box wr gb cur 5 from hh).frozen q, hbg⟩
                have := hce (g := gb) (by rw [hv]; rfl) q (.int .u8 (x.y.f q)) (by simp [List.getElem?_range h3])
                rw [Go.WideShapes.add_plain, Nat.zero_add] at this
                rw [hz]; exact this
            subst hp2
            have HIr : Hid (RfI wr Z rb m (.slice (some ⟨g, 0, none⟩) P.length cap) P) := HI.out.but (But.ofBelow HB2.out) (fun _ _ h => h)
            obtain ⟨Y, hY⟩ : ∃ Y : Nat, (Y : Int) = flipB z r := ⟨_, rfl⟩
            have hbx : bits BinOp.xor IntKind.u8 z (o : Int) = (Y : Int) := by
              have h1 := bits_xor_u8_nat z.toNat o (by omega) (by omega)
              rw [Int.toNat_of_nonneg hzb.1] at h1
              rw [h1, hY]
              show ((z.toNat ^^^ o : Nat) : Int) = ((z.toNat ^^^ (1 <<< r) : Nat) : Int)
              rw [HO.out]
              first | done | rw [Nat.one_shiftLeft]
            have hb1 := HIr.out.bx.cell 1
            simp at hb1
            have hbl := HIr.out.bx.lt
            have hob : o < 256 := by omega
            obtain ⟨_, _, hvr, hglr, _, _, d2, _, hfr⟩ := HIr.out.get HPl.out.at_
            obtain ⟨hgg, _, _⟩ := Value.slice.inj hvr
            cases hgg
            have hgs : g < w.heap.size := hgl
            have hgbg : gb ≠ g := by omega
            have hgbr : gb ≠ rb := by omega
            have HZq := hid hz
            have HYe := hid hY
            have df := hfr (k * 4 + 2)
            have hgbg' : g ≠ gb := fun e => hgbg e.symm
            have hgbr' : rb ≠ gb := fun e => hgbr e.symm
            have hYb : 0 ≤ (Y : Int) ∧ (Y : Int) < 256 := by rw [hY]; exact flipB_lt hzb hr8
            have HYb := hid hYb
            clear hz hY hvr hfr hYb
            go_wp2
            obtain ⟨T, hT⟩ : ∃ T, T = wr.setCell ⟨gb, q, none⟩ (.int .u8 (Y : Int)) := ⟨_, rfl⟩
            rw [← hT]
            have hbt : But (fun j => j = gb) wr T := by rw [hT]; exact (But.one wr gb).setAt q _
            have hwT : Below w.heap.size w T := HB2.out.trans (hbt.below HB2.out.size (fun j hj e => by have e' : j = gb := e; omega))
            have hIT : RfI T Z rb m (.slice (some ⟨g, 0, none⟩) P.length cap) P := HI.out.but (But.ofBelow hwT) (fun _ _ h => h)
            have hoB : T.ownsRow w.heap.size 5 1 (.slice (some ⟨gb, 0, none⟩) x.y.n c2') x.y.n ((List.range x.y.n).map fun j => .int .u8 (flipF x.y.f q (Y : Int) j)) := by
              have h1 := ownsRow_setCell HO2.out q (.int .u8 (Y : Int))
              rw [← hT] at h1
              have e : ((List.range x.y.n).map fun j => Value.int .u8 (flipF x.y.f q (Y : Int) j)) = ((List.range x.y.n).map fun j => Value.int .u8 (x.y.f j)).set q (.int .u8 (Y : Int)) := by
                apply List.ext_getElem?
                intro j
                by_cases hj : j = q
                · subst hj
                  rw [List.getElem?_set_self (by simpa using h3)]
                  simp [List.getElem?_range h3, flipF]
                · rw [List.getElem?_set_ne (fun e => hj e.symm)]
                  by_cases hjn : j < x.y.n
                  · simp [List.getElem?_range hjn, flipF, hj]
                  · rw [List.getElem?_eq_none (by simp; omega), List.getElem?_eq_none (by simp; omega)]
              rw [e]
              exact h1
            obtain ⟨U, hU⟩ : ∃ U, U = T.setCell ⟨g, k * 4 + 2, none⟩ (.slice (some ⟨gb, 0, none⟩) x.y.n c2') := ⟨_, rfl⟩
            rw [← hU]
            have hbu : But (fun j => j = g) T U := by rw [hU]; exact (But.one T g).setAt _ _
            have hgrb : g ≠ rb := fun e => hIT.ne_row (by rw [← e]; rfl)
            have hox : x.out = false := HPl.out.fly
            have hpu := HPl.out.put ⟨x.fr, x.tt, ⟨some ⟨gb, 0, none⟩, x.y.n, c2', flipF x.y.f q (Y : Int)⟩, x.out⟩
            have hput := hIT.put (w3 := U) (k := k) (y := ⟨x.fr, x.tt, ⟨some ⟨gb, 0, none⟩, x.y.n, c2', flipF x.y.f q (Y : Int)⟩, x.out⟩) (hbu.mono fun j _ e => .inr (by rw [show j = g from e]; rfl)) (by
                rw [hpu.2 hox, List.length_set]
                exact hIT.bx.but hbu (fun e => hgrb e.symm)) (by
                rw [flat4_one P k x _ HPl.out.at_, hU]
                exact ownsRow_setCell hIT.row _ _) (by
                have h1 : Byts T (fun j => w.heap.size ≤ j) (some ⟨gb, 0, none⟩) x.y.n c2' (flipF x.y.f q (Y : Int)) := Byts.ofOwn hoB (by omega) (fun j hj => by
                  unfold flipF
                  split
                  · exact HYb.out
                  · exact HFit.out j hj)
                refine (h1.kept hbu.size fun j hj _ => hbu.block j (by assumption) (fun e => by have e' : j = g := e; omega)).mono fun j hj _ => ⟨fun hz => ?_, ?_, fun e => ?_⟩
                · have := HZ.out j hz; omega
                · have := HI.out.bx.lt; omega
                · have e' : g = j := by simpa [Value.ownBlock] using e
                  omega) hsz
            refine bodyPost_ret (v := .bool true) (by simp [results, Try.results38, go_sem]) rfl ⟨fun h => absurd HF.out h, fun _ => ⟨rfl, ⟨x.a, HAx.out, ⟨_, _, hput.1, ?_, by rw [List.length_set]; exact HPN.out⟩⟩, (Fr.below hwT).trans hput.2⟩⟩
            rw [hpu.2 hox, HPA.out]
            congr 1
            show (⟨x.fr, x.tt, (List.range x.y.n).map (flipF x.y.f q (Y : Int))⟩ : FA) = ⟨x.fr, x.tt, flipZ x.y.zs t⟩
            congr 1
            rw [HYe.out, HZq.out, flipF_zs x.y.n x.y.f q r h3, HQ.out, HR.out]
            rfl
end Go.Proofs.Ytoefbcagokgfcaa
