import Derived.Test.YtldkepokcbjlpaaPack45
import Derived.Test.YtldkepokcbjlpaaPack0
import Derived.ProofKit
import Derived.OpenShut
import Derived.ChangeOld
import Derived.SizedLaws
import Derived.Deep.DeepHandedRow
import Derived.Deep.Strs
import Derived.Lib.LaidTab
namespace Go.Proofs.Ytldkepokcbjlpaa
open Go.RowKit Go.Conc
set_option maxRecDepth 60000
theorem Ps.new_under (T A m : Int) (c : Nat) : (Ps.new T A m c).under = 0 := by
  unfold Ps.under
  rw [if_neg]
  unfold Ps.stat
  rw [if_pos (.inl (by show A + ((0 : Nat) : Int) - 1 < A; omega))]
  omega
theorem PR.start {w0 w w2 w3 : World} {T A m : Int} (hb : Below w0.heap.size w0 w) (hI : PsI w2 (w.heap.size + 1) (Ps.new T A m w.heap.size)) (hc : Inb w2 (Ps.new T A m w.heap.size) []) (hb2 : Below w.heap.size w w2) (hR : RpI w3 w2.heap.size ⟨T, A, m, ⟨none, 0, 0, fun _ => Rs.new 0⟩⟩) (hb3 : Below w2.heap.size w2 w3) (F : Nat → Prop) (hF : ∀ k, F k → w0.heap.size ≤ k ∧ k < w.heap.size) :
    PR w0 w3 (w.heap.size + 1) w2.heap.size (Ps.new T A m w.heap.size) ⟨T, A, m, ⟨none, 0, 0, fun _ => Rs.new 0⟩⟩ [] nP nI 0 F ∧ ∀ k, Pc (Ps.new T A m w.heap.size) (w.heap.size + 1) ⟨T, A, m, ⟨none, 0, 0, fun _ => Rs.new 0⟩⟩ w2.heap.size nP nI k → w.heap.size ≤ k := by
  have hg := (RG.new hb hI hc hb2 (CnR nP nI)).below hb3
  have hg0 := RG.new (Below.refl w.heap.size w) hI hc hb2 (CnR nP nI)
  have hs := hb2.size
  have hs3 := hb3.size
  have hlt := hI.box.lt
  have hrl := hR.box.lt
  have hD : ∀ k, Dr ⟨T, A, m, ⟨none, 0, 0, fun _ => Rs.new 0⟩⟩ w2.heap.size nP nI k → k = w2.heap.size := fun k hk => by
    rcases hk with e | e | e
    · rcases e with e | e
      · exact e
      · simp [Rp.lv, Value.ownBlock] at e
    · exact absurd e (nP_no k)
    · exact absurd e (nI_no k)
  have h00 := hb.size
  refine ⟨⟨hg.more (fun _ _ => rfl) (fun k hk => ?_) rfl _, hR, rfl, rfl, rfl, rfl, fun j hj => absurd hj (Nat.not_lt_zero _), fun k hk e => ?_, fun e => absurd (Ps.new_under T A m _) e⟩, fun k hk => ?_⟩
  · have hch := hg0.inb.lt
    rcases hk with e | e
    · rw [hD k e]
      refine ⟨by omega, hrl, fun e2 => ?_, fun e2 => by omega⟩
      have := hI.lt e2; omega
    · have h1 := hF k e
      refine ⟨h1.1, by omega, fun e2 => ?_, fun e2 => ?_⟩
      · have := hg0.cb k e2; omega
      · have := hg0.ch; omega
  · have h1 := hF k hk
    have := hD k e
    omega
  · rcases hk with e | e | e
    · exact hg0.cb k e
    · rw [e]; exact hg0.ch
    · rw [hD k e]; exact hs
def S1 (w0 w : World) (b r : Nat) : Prop := ∃ (P : Ps) (R : Rp) (ts : List (Nat × PtT)) (pt : LT PtT) (tk : LT Int) (m : Nat), PR w0 w b r P R ts pt tk m (fun _ => False)
def S2 (w0 w : World) (b r b2 r2 : Nat) : Prop := ∃ (P : Ps) (R : Rp) (ts : List (Nat × PtT)) (pt : LT PtT) (tk : LT Int) (m : Nat) (P2 : Ps) (R2 : Rp) (ts2 : List (Nat × PtT)) (pt2 : LT PtT) (tk2 : LT Int) (m2 : Nat), PR w0 w b r P R ts pt tk m (Pc P2 b2 R2 r2 pt2 tk2) ∧ PR w0 w b2 r2 P2 R2 ts2 pt2 tk2 m2 (Pc P b R r pt tk)
theorem S1.bel {w0 w : World} {b r : Nat} (h : S1 w0 w b r) : Below w0.heap.size w0 w := by
  obtain ⟨P, R, ts, pt, tk, m, h⟩ := h
  exact h.g.bel
theorem S2.bel {w0 w : World} {b r b2 r2 : Nat} (h : S2 w0 w b r b2 r2) : Below w0.heap.size w0 w := by
  obtain ⟨P, R, ts, pt, tk, m, P2, R2, ts2, pt2, tk2, m2, h, g⟩ := h
  exact h.g.bel
theorem S2.symm {w0 w : World} {b r b2 r2 : Nat} (h : S2 w0 w b r b2 r2) : S2 w0 w b2 r2 b r := by
  obtain ⟨P, R, ts, pt, tk, m, P2, R2, ts2, pt2, tk2, m2, h, g⟩ := h
  exact ⟨P2, R2, ts2, pt2, tk2, m2, P, R, ts, pt, tk, m, g, h⟩
theorem S1.play {w0 w : World} {b r : Nat} (h : S1 w0 w b r) (o : OpP) (last : Int) (hpt : PtIn w0 (fun k => k < w0.heap.size) o.pt) (hsz : PtSz o.pt) : Calls Try.prog 24 #[.pointer (some ⟨b, 0, none⟩), .pointer (some ⟨r, 0, none⟩), .agg #[.int .i64 o.kind, .bool o.snd, .bool o.abs, .int .i64 o.id, .int .i64 o.task, .int .i64 o.pt.num, .slice o.pt.cl.p o.pt.cl.n o.pt.cl.c, .slice o.pt.lg.p o.pt.lg.n o.pt.lg.c, .slice o.pt.pd.p o.pt.pd.n o.pt.pd.c, .bool o.ok], .int .i64 last] w fun e w' => ∃ l, e = .returned (.tuple #[.int .i64 l, .bool true]) ∧ S1 w0 w' b r := by
  obtain ⟨P, R, ts, pt, tk, m, h⟩ := h
  refine (plays_any o last h hpt hsz).mono fun e w' hp => ?_
  obtain ⟨l, P', R', ts', pt', tk', m', rfl, hp, _⟩ := hp
  exact ⟨l, rfl, P', R', ts', pt', tk', m', hp⟩
theorem S2.play {w0 w : World} {b r b2 r2 : Nat} (h : S2 w0 w b r b2 r2) (o : OpP) (last : Int) (hpt : PtIn w0 (fun k => k < w0.heap.size) o.pt) (hsz : PtSz o.pt) : Calls Try.prog 24 #[.pointer (some ⟨b, 0, none⟩), .pointer (some ⟨r, 0, none⟩), .agg #[.int .i64 o.kind, .bool o.snd, .bool o.abs, .int .i64 o.id, .int .i64 o.task, .int .i64 o.pt.num, .slice o.pt.cl.p o.pt.cl.n o.pt.cl.c, .slice o.pt.lg.p o.pt.lg.n o.pt.lg.c, .slice o.pt.pd.p o.pt.pd.n o.pt.pd.c, .bool o.ok], .int .i64 last] w fun e w' => ∃ l, e = .returned (.tuple #[.int .i64 l, .bool true]) ∧ S2 w0 w' b r b2 r2 := by
  obtain ⟨P, R, ts, pt, tk, m, P2, R2, ts2, pt2, tk2, m2, h, g⟩ := h
  refine (plays_any o last h hpt hsz).mono fun e w' hp => ?_
  obtain ⟨l, P', R', ts', pt', tk', m', rfl, hp, hf⟩ := hp
  exact ⟨l, rfl, P', R', ts', pt', tk', m', P2, R2, ts2, pt2, tk2, m2, hp, g.turn hf.cs hf.but (fun k hk => ⟨(hp.lt k hk).2, (hp.lt k hk).1⟩)⟩
set_option maxHeartbeats 16000000 in
theorem all_nn (tasks first sum tasks2 first2 sum2 : Int) (s : LT OpP) (w : World) (hin : LT.In elOpP w (fun b => b < w.heap.size) s) (h1 : (tasks < 1 ∨ 12 < tasks ∨ first < 1 ∨ 10000 < first)) (h2 : (tasks2 < 1 ∨ 12 < tasks2 ∨ first2 < 1 ∨ 10000 < first2)) : Calls Try.prog 6 #[.int .i64 tasks, .int .i64 first, .int .u32 sum, .int .i64 tasks2, .int .i64 first2, .int .u32 sum2, .slice s.p s.n s.c] w fun e w' => e = .returned (.bool true) ∧ Below w.heap.size w w' := by
  have HI := hid hin
  have hnn := hin.nn
  have HFw := hid (lfew_any s w hin)
  have H1 := hid h1
  have H2 := hid h2
  clear hin h1 h2
  go_enter Try.func6, Try.ntmps6
  go_wp2_with fail
  refine HFw.out.mono ?_
  rintro e w1 ⟨r, rfl, hsz, hb1⟩
  have HB1 := hid hb1
  clear HFw hb1
  rcases r with _ | _
  · go_wp2
    exact bodyPost_ret (v := .bool true) (by simp [results, Try.results6, go_sem]) rfl ⟨rfl, HB1.out⟩
  have HSz := hid (hsz rfl)
  clear hsz
  go_wp2_with fail
  refine (new_any tasks first sum w1).mono ?_
  rintro e w2 hN
  obtain ⟨rfl, hb1⟩ := hN.n H1.out
  have HBn1 := hid hb1
  clear hb1
  clear hN
  go_wp2_with fail
  refine (rnew_any tasks first sum w2).mono ?_
  rintro e w3 hN
  obtain ⟨rfl, rfl⟩ := hN.n H1.out
  clear hN
  go_wp2_with fail
  refine (new_any tasks2 first2 sum2 w3).mono ?_
  rintro e w4 hN
  obtain ⟨rfl, hb2⟩ := hN.n H2.out
  have HBn2 := hid hb2
  clear hb2
  clear hN
  go_wp2_with fail
  refine (rnew_any tasks2 first2 sum2 w4).mono ?_
  rintro e w5 hN
  obtain ⟨rfl, rfl⟩ := hN.n H2.out
  clear hN
  have HS0 : Hid (Below w.heap.size w w5) := (HB1.out.trans (HBn1.out.mono HB1.out.size)).trans (HBn2.out.mono (HB1.out.trans (HBn1.out.mono HB1.out.size)).size)
  clear HBn1 HBn2 HB1 H1 H2
  go_wp2_with fail
  go_loopw [23, 24, 25, 26] (fun l1 l2 kv x wr => ∃ (k : Nat) (a1 a2 : Int), k ≤ s.n ∧ l1 = .int .i64 a1 ∧ l2 = .int .i64 a2 ∧ kv = .bool true ∧ x = .int .i64 (k : Int) ∧ Below w.heap.size w wr) (fun _ _ _ x _ => s.n - (intOf x).toNat)
  case atStart => exact ⟨0, _, _, Nat.zero_le _, rfl, rfl, rfl, rfl, HS0.out⟩
  case round =>
    clear HS0
    obtain ⟨k, a1, a2, hk, rfl, rfl, rfl, rfl, hJ⟩ := hrel
    have HJ := hid hJ
    clear hJ
    by_cases hlt : k < s.n
    rotate_left
    · have hlt' : ¬ (k : Int) < (s.n : Int) := by omega
      go_wp2
      exact bodyPost_ret (v := .bool true) (by simp [results, Try.results6, go_sem]) rfl ⟨rfl, HJ.out⟩
    have hlt' : (k : Int) < (s.n : Int) := by omega
    have HPt := hid (HI.out.each k hlt)
    have HZ := hid (HSz.out k hlt)
    obtain ⟨gb, o, hp, hSb, hgb, hat⟩ := HI.out.at_ (by omega)
    rw [hp]
    have hcell : ∀ r u, (elOpP.cells (s.item k))[r]? = some u → wr.cell? ⟨gb, o + k * 10 + r, none⟩ = some u := fun r u hu => (World.cell?_of_block (a := ⟨gb, o + k * 10 + r, none⟩) (HJ.out.block gb hgb)).trans (hat k hlt r u hu)
    have c0 : wr.cell? ⟨gb, o + k * 10, none⟩ = some (.int .i64 (s.item k).kind) := hcell 0 _ rfl
    have c1 : wr.cell? ⟨gb, o + k * 10 + 1, none⟩ = some (.bool (s.item k).snd) := hcell 1 _ rfl
    have c2 : wr.cell? ⟨gb, o + k * 10 + 2, none⟩ = some (.bool (s.item k).abs) := hcell 2 _ rfl
    have c3 : wr.cell? ⟨gb, o + k * 10 + 3, none⟩ = some (.int .i64 (s.item k).id) := hcell 3 _ rfl
    have c4 : wr.cell? ⟨gb, o + k * 10 + 4, none⟩ = some (.int .i64 (s.item k).task) := hcell 4 _ rfl
    have c5 : wr.cell? ⟨gb, o + k * 10 + 5, none⟩ = some (.int .i64 (s.item k).pt.num) := hcell 5 _ rfl
    have c6 : wr.cell? ⟨gb, o + k * 10 + 6, none⟩ = some (.slice (s.item k).pt.cl.p (s.item k).pt.cl.n (s.item k).pt.cl.c) := hcell 6 _ rfl
    have c7 : wr.cell? ⟨gb, o + k * 10 + 7, none⟩ = some (.slice (s.item k).pt.lg.p (s.item k).pt.lg.n (s.item k).pt.lg.c) := hcell 7 _ rfl
    have c8 : wr.cell? ⟨gb, o + k * 10 + 8, none⟩ = some (.slice (s.item k).pt.pd.p (s.item k).pt.pd.n (s.item k).pt.pd.c) := hcell 8 _ rfl
    have c9 : wr.cell? ⟨gb, o + k * 10 + 9, none⟩ = some (.bool (s.item k).ok) := hcell 9 _ rfl
    have HAt := hid hat
    clear hcell hat
    rcases hsn : (s.item k).snd with _ | _
    · have HSn := hid hsn
      have c1s := c1
      rw [hsn] at c1s
      clear c1 hsn
      have c1 := c1s
      go_wp2
      go_roundw
      case rel => exact ⟨k + 1, a1, a2, by omega, rfl, rfl, rfl, by go_num, HJ.out⟩
      case measure => simp [intOf]; omega
    · have HSn := hid hsn
      have c1s := c1
      rw [hsn] at c1s
      clear c1 hsn
      have c1 := c1s
      go_wp2
      go_roundw
      case rel => exact ⟨k + 1, a1, a2, by omega, rfl, rfl, rfl, by go_num, HJ.out⟩
      case measure => simp [intOf]; omega
set_option maxHeartbeats 16000000 in
theorem all_yn (tasks first sum tasks2 first2 sum2 : Int) (s : LT OpP) (w : World) (hin : LT.In elOpP w (fun b => b < w.heap.size) s) (h1 : ¬ (tasks < 1 ∨ 12 < tasks ∨ first < 1 ∨ 10000 < first)) (h2 : (tasks2 < 1 ∨ 12 < tasks2 ∨ first2 < 1 ∨ 10000 < first2)) : Calls Try.prog 6 #[.int .i64 tasks, .int .i64 first, .int .u32 sum, .int .i64 tasks2, .int .i64 first2, .int .u32 sum2, .slice s.p s.n s.c] w fun e w' => e = .returned (.bool true) ∧ Below w.heap.size w w' := by
  have HI := hid hin
  have hnn := hin.nn
  have HFw := hid (lfew_any s w hin)
  have H1 := hid h1
  have H2 := hid h2
  clear hin h1 h2
  go_enter Try.func6, Try.ntmps6
  go_wp2_with fail
  refine HFw.out.mono ?_
  rintro e w1 ⟨r, rfl, hsz, hb1⟩
  have HB1 := hid hb1
  clear HFw hb1
  rcases r with _ | _
  · go_wp2
    exact bodyPost_ret (v := .bool true) (by simp [results, Try.results6, go_sem]) rfl ⟨rfl, HB1.out⟩
  have HSz := hid (hsz rfl)
  clear hsz
  go_wp2_with fail
  refine (new_any tasks first sum w1).mono ?_
  rintro e w2 hN
  obtain ⟨rfl, hI1, hc1, hb1⟩ := hN.y H1.out
  have HI1 := hid hI1
  have HC1 := hid hc1
  have HBn1 := hid hb1
  clear hI1 hc1 hb1
  clear hN
  go_wp2_with fail
  refine (rnew_any tasks first sum w2).mono ?_
  rintro e w3 hN
  obtain ⟨rfl, hr1, hs1⟩ := hN.y H1.out
  have HRr1 := hid hr1
  have HBr1 := hid hs1
  clear hr1 hs1
  clear hN
  go_wp2_with fail
  refine (new_any tasks2 first2 sum2 w3).mono ?_
  rintro e w4 hN
  obtain ⟨rfl, hb2⟩ := hN.n H2.out
  have HBn2 := hid hb2
  clear hb2
  clear hN
  go_wp2_with fail
  refine (rnew_any tasks2 first2 sum2 w4).mono ?_
  rintro e w5 hN
  obtain ⟨rfl, rfl⟩ := hN.n H2.out
  clear hN
  have HS1 := hid (PR.start HB1.out HI1.out HC1.out HBn1.out HRr1.out HBr1.out (fun _ => False) (fun k hk => hk.elim))
  have HS0 : Hid (S1 w w5 (w1.heap.size + 1) w2.heap.size) := ⟨_, _, _, _, _, _, HS1.out.1.below HBn2.out⟩
  obtain ⟨b1, hb1⟩ : ∃ x, x = w1.heap.size + 1 := ⟨_, rfl⟩
  obtain ⟨r1, hr1⟩ : ∃ x, x = w2.heap.size := ⟨_, rfl⟩
  rw [← hb1, ← hr1] at HS0
  rw [← hb1, ← hr1]
  clear hb1 hr1 HS1 HI1 HC1 HRr1 HBr1 HBn1 HBn2 HB1 H1 H2
  go_wp2_with fail
  go_loopw [23, 24, 25, 26] (fun l1 l2 kv x wr => ∃ (k : Nat) (a1 a2 : Int), k ≤ s.n ∧ l1 = .int .i64 a1 ∧ l2 = .int .i64 a2 ∧ kv = .bool true ∧ x = .int .i64 (k : Int) ∧ S1 w wr b1 r1) (fun _ _ _ x _ => s.n - (intOf x).toNat)
  case atStart => exact ⟨0, _, _, Nat.zero_le _, rfl, rfl, rfl, rfl, HS0.out⟩
  case round =>
    clear HS0
    obtain ⟨k, a1, a2, hk, rfl, rfl, rfl, rfl, hJ⟩ := hrel
    have HJ := hid hJ
    clear hJ
    by_cases hlt : k < s.n
    rotate_left
    · have hlt' : ¬ (k : Int) < (s.n : Int) := by omega
      go_wp2
      exact bodyPost_ret (v := .bool true) (by simp [results, Try.results6, go_sem]) rfl ⟨rfl, HJ.out.bel⟩
    have hlt' : (k : Int) < (s.n : Int) := by omega
    have HPt := hid (HI.out.each k hlt)
    have HZ := hid (HSz.out k hlt)
    obtain ⟨gb, o, hp, hSb, hgb, hat⟩ := HI.out.at_ (by omega)
    rw [hp]
    have hcell : ∀ r u, (elOpP.cells (s.item k))[r]? = some u → wr.cell? ⟨gb, o + k * 10 + r, none⟩ = some u := fun r u hu => (World.cell?_of_block (a := ⟨gb, o + k * 10 + r, none⟩) (HJ.out.bel.block gb hgb)).trans (hat k hlt r u hu)
    have c0 : wr.cell? ⟨gb, o + k * 10, none⟩ = some (.int .i64 (s.item k).kind) := hcell 0 _ rfl
    have c1 : wr.cell? ⟨gb, o + k * 10 + 1, none⟩ = some (.bool (s.item k).snd) := hcell 1 _ rfl
    have c2 : wr.cell? ⟨gb, o + k * 10 + 2, none⟩ = some (.bool (s.item k).abs) := hcell 2 _ rfl
    have c3 : wr.cell? ⟨gb, o + k * 10 + 3, none⟩ = some (.int .i64 (s.item k).id) := hcell 3 _ rfl
    have c4 : wr.cell? ⟨gb, o + k * 10 + 4, none⟩ = some (.int .i64 (s.item k).task) := hcell 4 _ rfl
    have c5 : wr.cell? ⟨gb, o + k * 10 + 5, none⟩ = some (.int .i64 (s.item k).pt.num) := hcell 5 _ rfl
    have c6 : wr.cell? ⟨gb, o + k * 10 + 6, none⟩ = some (.slice (s.item k).pt.cl.p (s.item k).pt.cl.n (s.item k).pt.cl.c) := hcell 6 _ rfl
    have c7 : wr.cell? ⟨gb, o + k * 10 + 7, none⟩ = some (.slice (s.item k).pt.lg.p (s.item k).pt.lg.n (s.item k).pt.lg.c) := hcell 7 _ rfl
    have c8 : wr.cell? ⟨gb, o + k * 10 + 8, none⟩ = some (.slice (s.item k).pt.pd.p (s.item k).pt.pd.n (s.item k).pt.pd.c) := hcell 8 _ rfl
    have c9 : wr.cell? ⟨gb, o + k * 10 + 9, none⟩ = some (.bool (s.item k).ok) := hcell 9 _ rfl
    have HAt := hid hat
    clear hcell hat
    rcases hsn : (s.item k).snd with _ | _
    · have HSn := hid hsn
      have c1s := c1
      rw [hsn] at c1s
      clear c1 hsn
      have HP := hid (HJ.out.play (s.item k) a1 HPt.out HZ.out)
      rw [HSn.out] at HP
      have c1 := c1s
      go_wp2_with fail
      refine HP.out.mono ?_
      rintro e w6 ⟨l6, rfl, hJ6⟩
      have HJ6 := hid hJ6
      clear hJ6 HP c0 c1 c2 c3 c4 c5 c6 c7 c8 c9 c1s
      go_wp2
      go_roundw
      case rel => exact ⟨k + 1, l6, a2, by omega, rfl, rfl, rfl, by go_num, HJ6.out⟩
      case measure => simp [intOf]; omega
    · have HSn := hid hsn
      have c1s := c1
      rw [hsn] at c1s
      clear c1 hsn
      have c1 := c1s
      go_wp2
      go_roundw
      case rel => exact ⟨k + 1, a1, a2, by omega, rfl, rfl, rfl, by go_num, HJ.out⟩
      case measure => simp [intOf]; omega
set_option maxHeartbeats 16000000 in
theorem all_ny (tasks first sum tasks2 first2 sum2 : Int) (s : LT OpP) (w : World) (hin : LT.In elOpP w (fun b => b < w.heap.size) s) (h1 : (tasks < 1 ∨ 12 < tasks ∨ first < 1 ∨ 10000 < first)) (h2 : ¬ (tasks2 < 1 ∨ 12 < tasks2 ∨ first2 < 1 ∨ 10000 < first2)) : Calls Try.prog 6 #[.int .i64 tasks, .int .i64 first, .int .u32 sum, .int .i64 tasks2, .int .i64 first2, .int .u32 sum2, .slice s.p s.n s.c] w fun e w' => e = .returned (.bool true) ∧ Below w.heap.size w w' := by
  have HI := hid hin
  have hnn := hin.nn
  have HFw := hid (lfew_any s w hin)
  have H1 := hid h1
  have H2 := hid h2
  clear hin h1 h2
  go_enter Try.func6, Try.ntmps6
  go_wp2_with fail
  refine HFw.out.mono ?_
  rintro e w1 ⟨r, rfl, hsz, hb1⟩
  have HB1 := hid hb1
  clear HFw hb1
  rcases r with _ | _
  · go_wp2
    exact bodyPost_ret (v := .bool true) (by simp [results, Try.results6, go_sem]) rfl ⟨rfl, HB1.out⟩
  have HSz := hid (hsz rfl)
  clear hsz
  go_wp2_with fail
  refine (new_any tasks first sum w1).mono ?_
  rintro e w2 hN
  obtain ⟨rfl, hb1⟩ := hN.n H1.out
  have HBn1 := hid hb1
  clear hb1
  clear hN
  go_wp2_with fail
  refine (rnew_any tasks first sum w2).mono ?_
  rintro e w3 hN
  obtain ⟨rfl, rfl⟩ := hN.n H1.out
  clear hN
  go_wp2_with fail
  refine (new_any tasks2 first2 sum2 w3).mono ?_
  rintro e w4 hN
  obtain ⟨rfl, hI2, hc2, hb2⟩ := hN.y H2.out
  have HI2 := hid hI2
  have HC2 := hid hc2
  have HBn2 := hid hb2
  clear hI2 hc2 hb2
  clear hN
  go_wp2_with fail
  refine (rnew_any tasks2 first2 sum2 w4).mono ?_
  rintro e w5 hN
  obtain ⟨rfl, hr2, hs2⟩ := hN.y H2.out
  have HRr2 := hid hr2
  have HBr2 := hid hs2
  clear hr2 hs2
  clear hN
  have HS2 := hid (PR.start (HB1.out.trans (HBn1.out.mono HB1.out.size)) HI2.out HC2.out HBn2.out HRr2.out HBr2.out (fun _ => False) (fun k hk => hk.elim))
  have HS0 : Hid (S1 w w5 (w3.heap.size + 1) w4.heap.size) := ⟨_, _, _, _, _, _, HS2.out.1⟩
  obtain ⟨b2, hb2⟩ : ∃ x, x = w3.heap.size + 1 := ⟨_, rfl⟩
  obtain ⟨r2, hr2⟩ : ∃ x, x = w4.heap.size := ⟨_, rfl⟩
  rw [← hb2, ← hr2] at HS0
  rw [← hb2, ← hr2]
  clear hb2 hr2 HS2 HI2 HC2 HRr2 HBr2 HBn1 HBn2 HB1 H1 H2
  go_wp2_with fail
  go_loopw [23, 24, 25, 26] (fun l1 l2 kv x wr => ∃ (k : Nat) (a1 a2 : Int), k ≤ s.n ∧ l1 = .int .i64 a1 ∧ l2 = .int .i64 a2 ∧ kv = .bool true ∧ x = .int .i64 (k : Int) ∧ S1 w wr b2 r2) (fun _ _ _ x _ => s.n - (intOf x).toNat)
  case atStart => exact ⟨0, _, _, Nat.zero_le _, rfl, rfl, rfl, rfl, HS0.out⟩
  case round =>
    clear HS0
    obtain ⟨k, a1, a2, hk, rfl, rfl, rfl, rfl, hJ⟩ := hrel
    have HJ := hid hJ
    clear hJ
    by_cases hlt : k < s.n
    rotate_left
    · have hlt' : ¬ (k : Int) < (s.n : Int) := by omega
      go_wp2
      exact bodyPost_ret (v := .bool true) (by simp [results, Try.results6, go_sem]) rfl ⟨rfl, HJ.out.bel⟩
    have hlt' : (k : Int) < (s.n : Int) := by omega
    have HPt := hid (HI.out.each k hlt)
    have HZ := hid (HSz.out k hlt)
    obtain ⟨gb, o, hp, hSb, hgb, hat⟩ := HI.out.at_ (by omega)
    rw [hp]
    have hcell : ∀ r u, (elOpP.cells (s.item k))[r]? = some u → wr.cell? ⟨gb, o + k * 10 + r, none⟩ = some u := fun r u hu => (World.cell?_of_block (a := ⟨gb, o + k * 10 + r, none⟩) (HJ.out.bel.block gb hgb)).trans (hat k hlt r u hu)
    have c0 : wr.cell? ⟨gb, o + k * 10, none⟩ = some (.int .i64 (s.item k).kind) := hcell 0 _ rfl
    have c1 : wr.cell? ⟨gb, o + k * 10 + 1, none⟩ = some (.bool (s.item k).snd) := hcell 1 _ rfl
    have c2 : wr.cell? ⟨gb, o + k * 10 + 2, none⟩ = some (.bool (s.item k).abs) := hcell 2 _ rfl
    have c3 : wr.cell? ⟨gb, o + k * 10 + 3, none⟩ = some (.int .i64 (s.item k).id) := hcell 3 _ rfl
    have c4 : wr.cell? ⟨gb, o + k * 10 + 4, none⟩ = some (.int .i64 (s.item k).task) := hcell 4 _ rfl
    have c5 : wr.cell? ⟨gb, o + k * 10 + 5, none⟩ = some (.int .i64 (s.item k).pt.num) := hcell 5 _ rfl
    have c6 : wr.cell? ⟨gb, o + k * 10 + 6, none⟩ = some (.slice (s.item k).pt.cl.p (s.item k).pt.cl.n (s.item k).pt.cl.c) := hcell 6 _ rfl
    have c7 : wr.cell? ⟨gb, o + k * 10 + 7, none⟩ = some (.slice (s.item k).pt.lg.p (s.item k).pt.lg.n (s.item k).pt.lg.c) := hcell 7 _ rfl
    have c8 : wr.cell? ⟨gb, o + k * 10 + 8, none⟩ = some (.slice (s.item k).pt.pd.p (s.item k).pt.pd.n (s.item k).pt.pd.c) := hcell 8 _ rfl
    have c9 : wr.cell? ⟨gb, o + k * 10 + 9, none⟩ = some (.bool (s.item k).ok) := hcell 9 _ rfl
    have HAt := hid hat
    clear hcell hat
    rcases hsn : (s.item k).snd with _ | _
    · have HSn := hid hsn
      have c1s := c1
      rw [hsn] at c1s
      clear c1 hsn
      have c1 := c1s
      go_wp2
      go_roundw
      case rel => exact ⟨k + 1, a1, a2, by omega, rfl, rfl, rfl, by go_num, HJ.out⟩
      case measure => simp [intOf]; omega
    · have HSn := hid hsn
      have c1s := c1
      rw [hsn] at c1s
      clear c1 hsn
      have HP := hid (HJ.out.play (s.item k) a2 HPt.out HZ.out)
      rw [HSn.out] at HP
      have c1 := c1s
      go_wp2_with fail
      refine HP.out.mono ?_
      rintro e w6 ⟨l6, rfl, hJ6⟩
      have HJ6 := hid hJ6
      clear hJ6 HP c0 c1 c2 c3 c4 c5 c6 c7 c8 c9 c1s
      have c1 : w6.cell? ⟨gb, o + k * 10 + 1, none⟩ = some (.bool true) := (World.cell?_of_block (a := ⟨gb, o + k * 10 + 1, none⟩) (HJ6.out.bel.block gb hgb)).trans ((HAt.out k hlt 1 _ rfl).trans (by rw [HSn.out]))
      go_wp2
      go_roundw
      case rel => exact ⟨k + 1, a1, l6, by omega, rfl, rfl, rfl, by go_num, HJ6.out⟩
      case measure => simp [intOf]; omega
set_option maxHeartbeats 16000000 in
theorem all_yy (tasks first sum tasks2 first2 sum2 : Int) (s : LT OpP) (w : World) (hin : LT.In elOpP w (fun b => b < w.heap.size) s) (h1 : ¬ (tasks < 1 ∨ 12 < tasks ∨ first < 1 ∨ 10000 < first)) (h2 : ¬ (tasks2 < 1 ∨ 12 < tasks2 ∨ first2 < 1 ∨ 10000 < first2)) : Calls Try.prog 6 #[.int .i64 tasks, .int .i64 first, .int .u32 sum, .int .i64 tasks2, .int .i64 first2, .int .u32 sum2, .slice s.p s.n s.c] w fun e w' => e = .returned (.bool true) ∧ Below w.heap.size w w' := by
  have HI := hid hin
  have hnn := hin.nn
  have HFw := hid (lfew_any s w hin)
  have H1 := hid h1
  have H2 := hid h2
  clear hin h1 h2
  go_enter Try.func6, Try.ntmps6
  go_wp2_with fail
  refine HFw.out.mono ?_
  rintro e w1 ⟨r, rfl, hsz, hb1⟩
  have HB1 := hid hb1
  clear HFw hb1
  rcases r with _ | _
  · go_wp2
    exact bodyPost_ret (v := .bool true) (by simp [results, Try.results6, go_sem]) rfl ⟨rfl, HB1.out⟩
  have HSz := hid (hsz rfl)
  clear hsz
  go_wp2_with fail
  refine (new_any tasks first sum w1).mono ?_
  rintro e w2 hN
  obtain ⟨rfl, hI1, hc1, hb1⟩ := hN.y H1.out
  have HI1 := hid hI1
  have HC1 := hid hc1
  have HBn1 := hid hb1
  clear hI1 hc1 hb1
  clear hN
  go_wp2_with fail
  refine (rnew_any tasks first sum w2).mono ?_
  rintro e w3 hN
  obtain ⟨rfl, hr1, hs1⟩ := hN.y H1.out
  have HRr1 := hid hr1
  have HBr1 := hid hs1
  clear hr1 hs1
  clear hN
  go_wp2_with fail
  refine (new_any tasks2 first2 sum2 w3).mono ?_
  rintro e w4 hN
  obtain ⟨rfl, hI2, hc2, hb2⟩ := hN.y H2.out
  have HI2 := hid hI2
  have HC2 := hid hc2
  have HBn2 := hid hb2
  clear hI2 hc2 hb2
  clear hN
  go_wp2_with fail
  refine (rnew_any tasks2 first2 sum2 w4).mono ?_
  rintro e w5 hN
  obtain ⟨rfl, hr2, hs2⟩ := hN.y H2.out
  have HRr2 := hid hr2
  have HBr2 := hid hs2
  clear hr2 hs2
  clear hN
  have HS1 := hid (PR.start HB1.out HI1.out HC1.out HBn1.out HRr1.out HBr1.out (fun _ => False) (fun k hk => hk.elim))
  have HS2 := hid (PR.start (HB1.out.trans ((HBn1.out.trans (HBr1.out.mono HBn1.out.size)).mono HB1.out.size)) HI2.out HC2.out HBn2.out HRr2.out HBr2.out (Pc (Ps.new tasks first sum w1.heap.size) (w1.heap.size + 1) ⟨tasks, first, sum, ⟨none, 0, 0, fun _ => Rs.new 0⟩⟩ w2.heap.size nP nI) (fun k hk => ⟨(HS1.out.1.lt k hk).2, (HS1.out.1.lt k hk).1⟩))
  have HS0 : Hid (S2 w w5 (w1.heap.size + 1) w2.heap.size (w3.heap.size + 1) w4.heap.size) := ⟨_, _, _, _, _, _, _, _, _, _, _, _, HS1.out.1.turn (fun k hk => .inr (HS2.out.2 k hk)) (But.ofBelow (HBn2.out.trans (HBr2.out.mono HBn2.out.size))) (fun k hk => ⟨(HS2.out.1.lt k hk).2, (HS2.out.1.lt k hk).1⟩), HS2.out.1⟩
  obtain ⟨b1, hb1⟩ : ∃ x, x = w1.heap.size + 1 := ⟨_, rfl⟩
  obtain ⟨r1, hr1⟩ : ∃ x, x = w2.heap.size := ⟨_, rfl⟩
  obtain ⟨b2, hb2⟩ : ∃ x, x = w3.heap.size + 1 := ⟨_, rfl⟩
  obtain ⟨r2, hr2⟩ : ∃ x, x = w4.heap.size := ⟨_, rfl⟩
  rw [← hb1, ← hr1, ← hb2, ← hr2] at HS0
  rw [← hb1, ← hr1, ← hb2, ← hr2]
  clear hb1 hr1 hb2 hr2 HS1 HI1 HC1 HRr1 HBr1 HS2 HI2 HC2 HRr2 HBr2 HBn1 HBn2 HB1 H1 H2
  go_wp2_with fail
  go_loopw [23, 24, 25, 26] (fun l1 l2 kv x wr => ∃ (k : Nat) (a1 a2 : Int), k ≤ s.n ∧ l1 = .int .i64 a1 ∧ l2 = .int .i64 a2 ∧ kv = .bool true ∧ x = .int .i64 (k : Int) ∧ S2 w wr b1 r1 b2 r2) (fun _ _ _ x _ => s.n - (intOf x).toNat)
  case atStart => exact ⟨0, _, _, Nat.zero_le _, rfl, rfl, rfl, rfl, HS0.out⟩
  case round =>
    clear HS0
    obtain ⟨k, a1, a2, hk, rfl, rfl, rfl, rfl, hJ⟩ := hrel
    have HJ := hid hJ
    clear hJ
    by_cases hlt : k < s.n
    rotate_left
    · have hlt' : ¬ (k : Int) < (s.n : Int) := by omega
      go_wp2
      exact bodyPost_ret (v := .bool true) (by simp [results, Try.results6, go_sem]) rfl ⟨rfl, HJ.out.bel⟩
    have hlt' : (k : Int) < (s.n : Int) := by omega
    have HPt := hid (HI.out.each k hlt)
    have HZ := hid (HSz.out k hlt)
    obtain ⟨gb, o, hp, hSb, hgb, hat⟩ := HI.out.at_ (by omega)
    rw [hp]
    have hcell : ∀ r u, (elOpP.cells (s.item k))[r]? = some u → wr.cell? ⟨gb, o + k * 10 + r, none⟩ = some u := fun r u hu => (World.cell?_of_block (a := ⟨gb, o + k * 10 + r, none⟩) (HJ.out.bel.block gb hgb)).trans (hat k hlt r u hu)
    have c0 : wr.cell? ⟨gb, o + k * 10, none⟩ = some (.int .i64 (s.item k).kind) := hcell 0 _ rfl
    have c1 : wr.cell? ⟨gb, o + k * 10 + 1, none⟩ = some (.bool (s.item k).snd) := hcell 1 _ rfl
    have c2 : wr.cell? ⟨gb, o + k * 10 + 2, none⟩ = some (.bool (s.item k).abs) := hcell 2 _ rfl
    have c3 : wr.cell? ⟨gb, o + k * 10 + 3, none⟩ = some (.int .i64 (s.item k).id) := hcell 3 _ rfl
    have c4 : wr.cell? ⟨gb, o + k * 10 + 4, none⟩ = some (.int .i64 (s.item k).task) := hcell 4 _ rfl
    have c5 : wr.cell? ⟨gb, o + k * 10 + 5, none⟩ = some (.int .i64 (s.item k).pt.num) := hcell 5 _ rfl
    have c6 : wr.cell? ⟨gb, o + k * 10 + 6, none⟩ = some (.slice (s.item k).pt.cl.p (s.item k).pt.cl.n (s.item k).pt.cl.c) := hcell 6 _ rfl
    have c7 : wr.cell? ⟨gb, o + k * 10 + 7, none⟩ = some (.slice (s.item k).pt.lg.p (s.item k).pt.lg.n (s.item k).pt.lg.c) := hcell 7 _ rfl
    have c8 : wr.cell? ⟨gb, o + k * 10 + 8, none⟩ = some (.slice (s.item k).pt.pd.p (s.item k).pt.pd.n (s.item k).pt.pd.c) := hcell 8 _ rfl
    have c9 : wr.cell? ⟨gb, o + k * 10 + 9, none⟩ = some (.bool (s.item k).ok) := hcell 9 _ rfl
    have HAt := hid hat
    clear hcell hat
    rcases hsn : (s.item k).snd with _ | _
    · have HSn := hid hsn
      have c1s := c1
      rw [hsn] at c1s
      clear c1 hsn
      have HP := hid (HJ.out.play (s.item k) a1 HPt.out HZ.out)
      rw [HSn.out] at HP
      have c1 := c1s
      go_wp2_with fail
      refine HP.out.mono ?_
      rintro e w6 ⟨l6, rfl, hJ6⟩
      have HJ6 := hid hJ6
      clear hJ6 HP c0 c1 c2 c3 c4 c5 c6 c7 c8 c9 c1s
      go_wp2
      go_roundw
      case rel => exact ⟨k + 1, l6, a2, by omega, rfl, rfl, rfl, by go_num, HJ6.out⟩
      case measure => simp [intOf]; omega
    · have HSn := hid hsn
      have c1s := c1
      rw [hsn] at c1s
      clear c1 hsn
      have HP := hid (HJ.out.symm.play (s.item k) a2 HPt.out HZ.out)
      rw [HSn.out] at HP
      have c1 := c1s
      go_wp2_with fail
      refine HP.out.mono ?_
      rintro e w6 ⟨l6, rfl, hJ6⟩
      have HJ6 := hid hJ6
      clear hJ6 HP c0 c1 c2 c3 c4 c5 c6 c7 c8 c9 c1s
      have c1 : w6.cell? ⟨gb, o + k * 10 + 1, none⟩ = some (.bool true) := (World.cell?_of_block (a := ⟨gb, o + k * 10 + 1, none⟩) (HJ6.out.bel.block gb hgb)).trans ((HAt.out k hlt 1 _ rfl).trans (by rw [HSn.out]))
      go_wp2
      go_roundw
      case rel => exact ⟨k + 1, a1, l6, by omega, rfl, rfl, rfl, by go_num, HJ6.out.symm⟩
      case measure => simp [intOf]; omega
theorem all_walk (tasks first sum tasks2 first2 sum2 : Int) (s : LT OpP) (w : World) (hin : LT.In elOpP w (fun b => b < w.heap.size) s) : Calls Try.prog 6 #[.int .i64 tasks, .int .i64 first, .int .u32 sum, .int .i64 tasks2, .int .i64 first2, .int .u32 sum2, .slice s.p s.n s.c] w fun e w' => e = .returned (.bool true) ∧ Below w.heap.size w w' := by
  by_cases h1 : (tasks < 1 ∨ 12 < tasks ∨ first < 1 ∨ 10000 < first)
  · by_cases h2 : (tasks2 < 1 ∨ 12 < tasks2 ∨ first2 < 1 ∨ 10000 < first2)
    · exact all_nn tasks first sum tasks2 first2 sum2 s w hin h1 h2
    · exact all_ny tasks first sum tasks2 first2 sum2 s w hin h1 h2
  · by_cases h2 : (tasks2 < 1 ∨ 12 < tasks2 ∨ first2 < 1 ∨ 10000 < first2)
    · exact all_yn tasks first sum tasks2 first2 sum2 s w hin h1 h2
    · exact all_yy tasks first sum tasks2 first2 sum2 s w hin h1 h2
end Go.Proofs.Ytldkepokcbjlpaa

namespace Go.Proofs.Ytldkepokcbjlpaa
open Go.ChangeShapes Go.WideShapes Go.ChangeAt Go.RowKit
set_option maxRecDepth 8000

theorem own : ownKnob Try.prog.godebug = none := by kernel_rfl
theorem laidOut : laidOutB Try.prog = true := by kernel_rfl
theorem cell_lt {w : World} {a : Addr} {v : Value} (h : w.cell? a = some v) : a.block < w.heap.size := by
  rcases Nat.lt_or_ge a.block w.heap.size with h1 | h1
  · exact h1
  · simp [World.cell?, Array.getElem?_eq_none h1] at h
theorem cellsV : Try.prog.cellsOf 97 = 4 := by kernel_rfl
theorem bytesV : Try.prog.bytesOf 97 = 56 := by kernel_rfl
theorem cellsVs : Try.prog.cellsOf 95 = 1 := by kernel_rfl
theorem cellsI3 : Try.prog.cellsOf 3 = 1 := by kernel_rfl
theorem cellsI2 : Try.prog.cellsOf 2 = 1 := by kernel_rfl
theorem cellsStr : Try.prog.cellsOf 9 = 1 := by kernel_rfl

theorem mem_weightsAll {H : Type} {P : Program} {e : TypeId} : ∀ {l : List (DataW H)} {d : DataW H} {n : Nat}, d ∈ l → n ∈ d.weights P e → n ∈ DataW.weightsAll P e l
  | [], _, _, h, _ => by cases h
  | x :: r, d, n, h, hn => by
    simp only [DataW.weightsAll, List.mem_append]
    rcases List.mem_cons.1 h with rfl | h
    · exact .inl hn
    · exact .inr (mem_weightsAll h hn)

theorem open_val {H : Type} {enc : TypeId × Value → H} {W : World} : ∀ (N fuel : Nat) (cs : List Value) (x : DataW H × List MemPlace), fuel ≤ N →
    DataW.trod enc Try.prog W 0 (fun _ => true) true fuel 97 cs = some x → (∀ n ∈ x.1.weights Try.prog 97, n ≤ reachBytes) → ∃ t : VT, cs = t.cells ∧ VT.In W (fun b => b < W.heap.size) t := by
  intro N
  induction N with
  | zero =>
    intro fuel cs x hf h
    obtain rfl : fuel = 0 := by omega
    simp [DataW.trod] at h
  | succ N ih =>
    intro fuel cs x hf h hw
    obtain ⟨xs, n, rfl, rfl, hlen, hxl, hfs⟩ := DataW.trod_struct Try.underlying97 h
    rw [cellsV] at hlen
    match xs, hxl with
    | [y0, y1, y2, y3], _ =>
    match cs, hlen with
    | [v0, v1, v2, v3], _ =>
    have g0 := hfs 0 _ rfl
    have g1 := hfs 1 _ rfl
    have g2 := hfs 2 _ rfl
    have g3 := hfs 3 _ rfl
    simp [cellsI3, cellsI2, cellsStr, cellsVs] at g0 g1 g2 g3
    obtain ⟨k, hk, _, wk⟩ := DataW.trod_int Try.underlying3 g0
    obtain ⟨i, hi, _, wi⟩ := DataW.trod_int Try.underlying2 g1
    obtain ⟨s, hs, hy2, _⟩ := DataW.trod_string Try.underlying9 g2
    have bk := bounds_i64 wk
    have bi := bounds_i64 wi
    simp at hk hi hs
    subst hk hi hs
    have hws : s.size ≤ 140737488355328 := by
      have hm := hw s.data.toList.length (by
        rw [hy2]
        simp [DataW.weights, DataW.weightsEach, Try.underlying97])
      unfold reachBytes at hm
      have e : s.data.toList.length = s.size := by simp
      omega
    have hwi : ∀ m ∈ y3.1.weights Try.prog 95, m ≤ reachBytes := fun m hm => hw m (by
      simp only [DataW.weights, Try.underlying97, List.map, DataW.weightsEach, List.mem_append]
      exact .inr (.inr (.inr (.inl hm))))
    rcases DataW.trod_slice Try.underlying95 g3 with ⟨hc, _⟩ | ⟨a, len, cap, elems, rest, m, hm, hc, hx, hb, hl, hcm, hel, hcell, hsp, _⟩
    · simp at hc
      subst hc
      refine ⟨.mk k i s 0 none 0 (fun _ => .nil), rfl, ⟨⟨bk.1, bk.2, bi.1, bi.2, hws, Nat.le_refl 0, by show 0 ≤ 140737488355328; omega, Nat.zero_le _, fun _ => ⟨rfl, rfl⟩⟩, fun h => absurd h (by omega), fun j hj => absurd hj (by omega)⟩⟩
    · simp at hc
      subst hc
      have hrest : rest.length = cap - len := (hsp rfl).1
      rw [hx] at hwi
      simp only [DataW.weights, Try.underlying95, List.mem_cons, List.mem_append, List.length_map] at hwi
      have hcb : cap * 56 ≤ reachBytes := by
        have := hwi _ (.inl rfl)
        rw [bytesV] at this
        rw [hel, hrest, show len + (cap - len) = cap by omega] at this
        exact this
      unfold reachBytes at hcb
      have each : ∀ j, j < len → ∃ t : VT, (∀ r, r < 4 → W.cell? (a.add (j * 4 + r)) = t.cells[r]?) ∧ VT.In W (fun b => b < W.heap.size) t := by
        intro j hj
        have h1 := hcell j hj
        have hje : j < elems.length := by omega
        rw [List.getElem?_eq_getElem hje, cellsV] at h1
        obtain ⟨cs', hcs, htr⟩ := Option.bind_eq_some_iff.1 h1
        obtain ⟨t, rfl, hin⟩ := ih m cs' elems[j] (by omega) htr (fun q hq => hwi q (.inr (.inl (mem_weightsAll (d := elems[j].1) (List.mem_map.2 ⟨elems[j], List.getElem_mem hje, rfl⟩) hq))))
        obtain ⟨_, hln, hcc⟩ := World.cells?_some hcs
        refine ⟨t, fun r hr => ?_, hin⟩
        have := hcc r (by omega)
        rw [Go.Deep.add_add] at this
        exact this
      have : Inhabited VT := ⟨.nil⟩
      obtain ⟨F, hF⟩ := Go.Deep.choose_lt each
      refine ⟨.mk k i s len (some a) cap F, rfl, ⟨⟨bk.1, bk.2, bi.1, bi.2, hws, hl, ?_, hcm, fun h => by cases h⟩, fun hp => ?_, fun j hj => (hF j hj).2⟩⟩
      · show len ≤ 140737488355328; omega
      · obtain ⟨b, o, spot⟩ := a
        have f0 := (hF 0 hp).1 0 (by omega)
        have hspot : spot = none := by simpa [Addr.add] using World.cell?_spot f0
        subst hspot
        have hbl : b < W.heap.size := by have := cell_lt f0; simpa [Addr.add] using this
        refine ⟨b, o, rfl, hbl, hbl, fun j hj => ?_⟩
        have f := (hF j hj).1
        have q0 := f 0 (by omega)
        have q1 := f 1 (by omega)
        have q2 := f 2 (by omega)
        have q3 := f 3 (by omega)
        rw [add_plain] at q0 q1 q2 q3
        exact ⟨q0, q1, q2, q3⟩
/-- WHAT A VALUE THAT CAME IN IS -/
theorem open_value {H : Type} {enc : TypeId × Value → H} {W : World} {v : Value} {d : DataW H} {p : List MemPlace}
    (hd : DataW.Trod enc Try.prog W 0 (fun _ => true) true 97 v d p) (hw : ∀ n ∈ d.weights Try.prog 97, n ≤ reachBytes) :
    ∃ t : VT, v = t.val ∧ VT.In W (fun b => b < W.heap.size) t := by
  obtain ⟨fuel, hf⟩ := hd
  obtain ⟨t, hc, hin⟩ := open_val fuel fuel _ _ (Nat.le_refl _) hf hw
  refine ⟨t, ?_, hin⟩
  cases v with
  | agg cs =>
    have h2 : cs.toList = t.cells := hc
    obtain ⟨l⟩ := cs
    simp only at h2
    rw [h2]; rfl
  | _ => simp [Value.cells, VT.cells] at hc
end Go.Proofs.Ytldkepokcbjlpaa
