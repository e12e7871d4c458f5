import Derived.Test.YtckopbkhpbhljaaPack39
import Derived.Test.YtckopbkhpbhljaaPack42
namespace Go.Proofs.Ytckopbkhpbhljaa
open Go.RowKit
set_option maxRecDepth 8000

/-- a state in a row -/
def elS : El (Int × LT VT) where
  ty := 24
  size := 2
  cells := fun d => [.int .i64 d.1, .slice d.2.p d.2.n d.2.c]
  len := fun _ => rfl
  one := fun x u hu => by
    simp only [List.mem_cons, List.not_mem_nil, or_false] at hu
    rcases hu with rfl | rfl <;> rfl
  In := fun w S d => (-9223372036854775808 ≤ d.1 ∧ d.1 ≤ 9223372036854775807) ∧ LT.In elCell w S d.2
  kept := fun h hs hb => ⟨h.1, h.2.kept hs hb⟩
  mono := fun h hb => ⟨h.1, h.2.mono hb⟩
set_option maxHeartbeats 2000000 in
/-- States -/
theorem szStates_any (l : LT (Int × LT VT)) (w : World) (S : Nat → Prop) (hin : LT.In elS w S l) (hS : ∀ b, S b → b < w.heap.size) :
    Calls Try.prog 9 #[.slice l.p l.n l.c] w fun e w' => ∃ q, e = .returned (.bool q) ∧ (q = true → ∀ j, j < l.n → CSz (l.item j).2) ∧ Below w.heap.size w w' := by
  have hb0 : Below w.heap.size w (w.alloc (.cells #[.int .i64 10000] 95)) := (Below.refl _ _).alloc (Nat.le_refl _) _
  have HB0 := hid hb0
  have HX0 : Hid (Box (w.alloc (.cells #[.int .i64 10000] 95)) w.heap.size #[.int .i64 10000] 95) := Box.new _ _ _
  have HI := hid (hin.below hb0)
  have HS : Hid (¬ S w.heap.size) := fun h => absurd (hS _ h) (by omega)
  have hnn := hin.nn
  clear hin hS hb0
  go_enter Try.func9, Try.ntmps9
  go_wp2_with (go_at_call 27; refine (szNew_any _).mono ?_; rintro e w1 ⟨rfl, rfl⟩)
  go_loopw [4] (fun x wr => ∃ k : Nat, k ≤ l.n ∧ x = .int .i64 (k : Int) ∧ ∃ m : Int, m ≤ 10000 ∧ Box wr w.heap.size #[.int .i64 m] 95 ∧ (0 ≤ m → ∀ q, q < k → CSz (l.item q).2) ∧ But (fun k => k = w.heap.size) (w.alloc (.cells #[.int .i64 10000] 95)) wr) (fun x _ => l.n - (intOf x).toNat)
  case atStart => exact ⟨0, Nat.zero_le _, rfl, 10000, by omega, HX0.out, fun _ q hq => absurd hq (by omega), But.refl _ _⟩
  case round =>
    obtain ⟨k, hk, rfl, m, hm, hbm, hq, hkm⟩ := hrel
    have HO := hid (szOk_any wr w.heap.size m hbm)
    have HQ := hid hq
    have HBm := hid hbm
    have HK := hid hkm
    clear hq
    by_cases hlt : k < l.n
    · have hlt' : (k : Int) < (l.n : Int) := by omega
      by_cases hm0 : 0 ≤ m
      · have hd : decide (0 ≤ m) = true := decide_eq_true hm0
        rw [hd] at HO
        obtain ⟨bb, o, hp, hSb, hbl, hat⟩ := HI.out.at_ (show 0 < l.n by omega)
        have hne : bb ≠ w.heap.size := fun e => HS.out (e ▸ hSb)
        have hca : ∀ r v, (elS.cells (l.item k))[r]? = some v → wr.cell? ⟨bb, o + k * 2 + r, none⟩ = some v := fun r v hv => (World.cell?_of_block (a := ⟨bb, o + k * 2 + r, none⟩) (hkm.block bb hbl hne)).trans (hat k hlt r v hv)
        have c1 := hca 1 _ rfl
        have hbl2 : bb < wr.heap.size := Nat.lt_of_lt_of_le hbl hkm.size
        have hi : LT.In elCell (w.alloc (.cells #[.int .i64 10000] 95)) S (l.item k).2 := (HI.out.each k hlt).2
        have HC := hid (szCells_all (l.item k).2 wr S w.heap.size m (hi.kept hkm.size (fun b hb hl => hkm.block b hl (fun e => HS.out (e ▸ hb)))) HS.out hbm (by omega) hm)
        rw [hp]
        clear hat hca hkm hi hbm hd
        go_wp2_with (first | (go_at_call 28; refine HO.out.mono ?_; rintro e w2 ⟨rfl, rfl⟩))
        refine HC.out.mono ?_
        rintro e w3 ⟨rfl, m', hb3, ht3, hk3⟩
        go_wp2
        go_roundw
        case rel =>
          refine ⟨k + 1, by omega, by go_num, m', by have := ht3.le; omega, hb3, fun h0 q hq => ?_, HK.out.trans hk3⟩
          by_cases hqk : q < k
          · exact HQ.out hm0 q hqk
          · obtain rfl : q = k := by omega
            have a1 := ht3.ok h0
            exact CSz.of (by omega)
        case measure => simp [intOf]; omega
      · have hd : decide (0 ≤ m) = false := decide_eq_false hm0
        rw [hd] at HO
        clear hd hkm hbm
        go_wp2_with (first | (go_at_call 28; refine HO.out.mono ?_; rintro e w2 ⟨rfl, rfl⟩))
        exact bodyPost_ret (v := .bool false) (by simp [results, Try.results9, go_sem]) rfl ⟨false, rfl, fun h => (by cases h), HB0.out.trans (HK.out.below HB0.out.size fun k hk => by omega)⟩
    · obtain rfl : k = l.n := by omega
      clear hkm hbm
      go_wp2_with (first | (go_at_call 28; refine HO.out.mono ?_; rintro e w2 ⟨rfl, rfl⟩))
      exact bodyPost_ret (v := .bool (decide (0 ≤ m))) (by simp [results, Try.results9, go_sem]) rfl ⟨_, rfl, fun h j hj => HQ.out (of_decide_eq_true h) j hj, HB0.out.trans (HK.out.below HB0.out.size fun k hk => by omega)⟩
/-- what sound makes of a state -/
def snd (k : Int) (s : LT VT) : Int × LT VT := if chkState ⟨k, s.p, s.n, s.c, s.item⟩ = 0 then (k, s) else (0, nL)
theorem snd_ok (k : Int) (s : LT VT) : chkState ⟨(snd k s).1, (snd k s).2.p, (snd k s).2.n, (snd k s).2.c, (snd k s).2.item⟩ = 0 := by
  unfold snd
  split
  · assumption
  · exact chk_nL 0 (by omega) (by omega)
theorem snd_in {k : Int} {s : LT VT} {w : World} {S : Nat → Prop} (h : LT.In elCell w S s) : LT.In elCell w S (snd k s).2 := by
  unfold snd
  split
  · exact h
  · exact nL_in _ _
theorem snd_sz {k : Int} {s : LT VT} (h : CSz s) : CSz (snd k s).2 := by
  unfold snd
  split
  · exact h
  · exact ⟨by show 0 ≤ 10000; omega, fun j hj => absurd hj (by show ¬ j < 0; omega)⟩
set_option maxHeartbeats 2000000 in
theorem sound_any (k : Int) (s : LT VT) (w : World) (S : Nat → Prop) (hs : LT.In elCell w S s) (h0 : -9223372036854775808 ≤ k) (h1 : k ≤ 9223372036854775807) (hS : ∀ b, S b → b < w.heap.size) :
    Calls Try.prog 11 #[.agg #[.int .i64 k, .slice s.p s.n s.c]] w fun e w' => e = .returned (.agg #[.int .i64 (snd k s).1, .slice (snd k s).2.p (snd k s).2.n (snd k s).2.c]) ∧ Below w.heap.size w w' := by
  obtain ⟨W, hW⟩ : ∃ V, V = (w.alloc (.cells #[.int .i64 k, .slice s.p s.n s.c] 24)).alloc (.cells #[.int .i64 0, .slice none 0 0] 24) := ⟨_, rfl⟩
  have hB : Below w.heap.size w W := by rw [hW]; exact ((Below.refl _ _).alloc (Nat.le_refl _) _).alloc (by simp) _
  have hx : Box W w.heap.size #[.int .i64 k, .slice s.p s.n s.c] 24 := by rw [hW]; exact (Box.new w _ _).below ((Below.refl _ _).alloc (Nat.le_refl _) _)
  have hy : Box W (w.heap.size + 1) #[.int .i64 0, .slice none 0 0] 24 := by
    have h := Box.new (w.alloc (.cells #[.int .i64 k, .slice s.p s.n s.c] 24)) #[.int .i64 0, .slice none 0 0] 24
    rw [show (w.alloc (.cells #[.int .i64 k, .slice s.p s.n s.c] 24)).heap.size = w.heap.size + 1 by simp] at h
    rw [hW]; exact h
  have HC := hid (checkState_any ⟨k, s.p, s.n, s.c, s.item⟩ W S (LT.toST (hs.below hB) h0 h1) (fun b hb => Nat.lt_of_lt_of_le (hS b hb) hB.size))
  obtain ⟨c, hc⟩ : ∃ c, c = chkState ⟨k, s.p, s.n, s.c, s.item⟩ := ⟨_, rfl⟩
  rw [← hc] at HC
  have HE := hid hc
  have HB := hid hB
  have HW := hid hW
  have HX := hid hx
  have HY := hid hy
  have x0 := hx.cell 0
  have x1 := hx.cell 1
  have xl := hx.lt
  simp at x0 x1
  clear hs hB hW hx hy hc
  go_enter Try.func11, Try.ntmps11
  go_upto_region 1 with fail
  rw [← HW.out]
  go_wp2_with fail
  refine HC.out.mono ?_
  rintro e w1 ⟨rfl, hb1⟩
  have hx1 := HX.out.below hb1
  have hy1 := HY.out.below hb1
  have HB1 := hid (HB.out.trans (hb1.mono HB.out.size))
  clear x0 x1 xl hb1
  have x0 := hx1.cell 0
  have x1 := hx1.cell 1
  have xl := hx1.lt
  have y0 := hy1.cell 0
  have y1 := hy1.cell 1
  have f0 := hy1.frozen 0
  have f1 := hy1.frozen 1
  have yl := hy1.lt
  simp at x0 x1 y0 y1
  have HY1 := hid hy1
  clear hx1 hy1
  by_cases h : c = 0
  · have HS : Hid (snd k s = (k, s)) := by show _ = _; unfold snd; rw [← HE.out, if_pos h]
    subst h
    have r9 := (HY1.out.set 0 (.int .i64 k)).set 1 (.slice s.p s.n s.c)
    have r0 := r9.cell 0
    have r1 := r9.cell 1
    simp at r0 r1
    clear r9
    go_wp2
    refine bodyPost_ret (v := .agg #[.int .i64 k, .slice s.p s.n s.c]) (by simp [results, Try.results11, go_sem, r0, r1]) rfl ⟨by rw [HS.out], (HB1.out.setCell (p := ⟨w.heap.size + 1, 0, none⟩) (by show w.heap.size ≤ w.heap.size + 1; omega) _).setCell (p := ⟨w.heap.size + 1, 1, none⟩) (by show w.heap.size ≤ w.heap.size + 1; omega) _⟩
  · have HS : Hid (snd k s = (0, nL)) := by show _ = _; unfold snd; rw [← HE.out, if_neg h]
    have h' : ((c : Int) != 0) = true := by simp; omega
    have h2 : ¬ (c : Int) = 0 := by omega
    have r9 := (HY1.out.set 0 (.int .i64 0)).set 1 (.slice none 0 0)
    have r0 := r9.cell 0
    have r1 := r9.cell 1
    simp at r0 r1
    clear r9
    go_wp2
    refine bodyPost_ret (v := .agg #[.int .i64 0, .slice none 0 0]) (by simp [results, Try.results11, go_sem, r0, r1]) rfl ⟨by rw [HS.out]; rfl, (HB1.out.setCell (p := ⟨w.heap.size + 1, 0, none⟩) (by show w.heap.size ≤ w.heap.size + 1; omega) _).setCell (p := ⟨w.heap.size + 1, 1, none⟩) (by show w.heap.size ≤ w.heap.size + 1; omega) _⟩
/-- u is what Diff makes of two good lists -/
structure Dfd (a : LT VT) (bn : Int) (b : LT VT) (u : DT) : Prop where
  num : u.num = bn
  set : u.nS = (dSet (dEv a b)).map VT.norm
  gone : u.gone.toL = dGone (dEv a b)
  fit : chkD u = 0
  sz : DSz u
/-- Diff of good states, in one word -/
theorem diff_one (an : Int) (a : LT VT) (bn : Int) (b : LT VT) (w : World) (S : Nat → Prop) (ha : LT.In elCell w S a) (hb : LT.In elCell w S b) (hS : ∀ k, S k → k < w.heap.size) (za : CSz a) (zb : CSz b) (ca : chkState ⟨an, a.p, a.n, a.c, a.item⟩ = 0) (cb : chkState ⟨bn, b.p, b.n, b.c, b.item⟩ = 0) :
    Calls Try.prog 12 #[.agg #[.int .i64 an, .slice a.p a.n a.c], .agg #[.int .i64 bn, .slice b.p b.n b.c]] w fun r w' => Below w.heap.size w w' ∧ ∃ u : DT, r = .returned (.tuple #[.agg #[.int .i64 u.num, .slice u.set.p u.set.n u.set.c, .slice u.gone.p u.gone.n u.gone.c], .int .i64 0]) ∧ DT.In w' (fun k => w.heap.size ≤ k) u ∧ Dfd a bn b u := by
  have ra := chkState_rise ca
  have rb := chkState_rise cb
  have oa := SOk.of ca ha
  have ob := SOk.of cb hb
  refine (diff_any an a bn b w S ha (by omega) (by omega) hb (by omega) (by omega) hS ⟨za.n, zb.n⟩ zb.item (fun x hx => ?_)).mono ?_
  · have I := dEv_spec oa ob
    rcases I.ab x hx with h | h
    · have hm := I.a x hx h
      rw [← hm.2]
      have := (oa.cells _ hm.1).key
      omega
    · have hm := I.b x hx h
      rw [← hm.2]
      have := (ob.cells _ hm.1).key
      omega
  · rintro r w' ⟨h1, _, h3⟩
    have h0 : diffE an a bn b = 0 := by unfold diffE; rw [if_neg (by simpa using ca), cb]
    obtain ⟨u, e1, e2, e3⟩ := h3 h0
    obtain ⟨n1, n2, n3⟩ := e2.nS e3
    have hn : u.set.n = (dSet (dEv a b)).length := e2.sn
    have hg : u.gone.n = (dGone (dEv a b)).length := e2.gn
    have hfit := diff_fit oa ob n2 n3 (by omega) (by omega) ⟨ra.2.1, rb.2.1⟩
    refine ⟨h1, u, e1, e3, n1, n2, n3, hfit, ?_⟩
    have hk := chkD_ok hfit
    refine ⟨by have := hk.sn; omega, by have := hk.gn; omega, fun j hj => ?_⟩
    have h5 := e2.set j (show j < (dSet (dEv a b)).length by omega)
    have hj2 : j < (dSet (dEv a b)).length := by omega
    have h6 : (ltOf none 0 zC (dSet (dEv a b))).item j = (dSet (dEv a b))[j] := by simp [ltOf, hj2]
    simp only at h5
    rw [h6] at h5
    rw [h5.total]
    obtain ⟨i, hi, e⟩ := LT.mem_toL ((dSet_mem oa ob _).1 (List.getElem_mem hj2)).1
    rw [← e]; exact zb.item i hi
end Go.Proofs.Ytckopbkhpbhljaa

namespace Go.Proofs.Ytckopbkhpbhljaa
open Go.RowKit
set_option maxRecDepth 8000
theorem nS_cl (d : DT) : d.nS.map cn = d.set.cl := cl_nl d.set
theorem Jnd.cl {d e j : DT} (h : Jnd d e j) : j.set.cl = jS d.set.cl e.gone.toL e.set.cl := by
  rw [← nS_cl, h.set, ← jS_cn, nS_cl, nS_cl]
theorem jG_cn (P : List ByteArray) (B : List VT) (Q : List ByteArray) : jG P (B.map cn) Q = jG P B Q := by
  unfold jG
  have h1 := wo_nat id cn id VT.text (⟨#[]⟩ : ByteArray) zC id VT.text (fun _ => rfl) cn_text P B
  rw [cn_z, List.map_id, List.map_id] at h1
  simp only [id_eq] at h1
  rw [h1]
theorem Jnd.goneC {d e j : DT} (h : Jnd d e j) : j.gone.toL = jG d.gone.toL e.set.cl e.gone.toL := by
  rw [h.gone, ← nS_cl, jG_cn]
theorem cS_rise {l : LT VT} (h : Rise VT.text l.toL) : Rise VT.text l.cl := cl_rise.2 h
theorem Dfd.back {w : World} {S : Nat → Prop} {a b : LT VT} {bn : Int} {u : DT} (h : Dfd a bn b u) (ha : SOk w S a) (hb : SOk w S b) : jS a.cl u.gone.toL u.set.cl = b.cl := by
  have h1 : u.set.cl = (dSet (dEv a b)).map cn := by
    rw [← nS_cl, h.set, List.map_map]
    exact List.map_congr_left fun c _ => cn_norm c
  rw [h1, h.gone]
  show jS (a.toL.map cn) _ _ = _
  rw [jS_cn]
  exact diff_back ha hb
/-- a delta that leads from a list of cells to another: j is fit, and what Apply lays is b (missing keys aside) -/
structure Leads (a : LT VT) (j : DT) (bn : Int) (b : LT VT) : Prop where
  num : j.num = bn
  fit : chkD j = 0
  lead : jS a.cl j.gone.toL j.set.cl = b.cl
theorem Leads.first {w : World} {S : Nat → Prop} {a b : LT VT} {bn : Int} {u : DT} (h : Dfd a bn b u) (ha : SOk w S a) (hb : SOk w S b) : Leads a u bn b := ⟨h.num, h.fit, h.back ha hb⟩
section
variable {w : World} {S : Nat → Prop} {a b c : LT VT} {bn cn' : Int} {j e k : DT} (h : Leads a j bn b) (ha : SOk w S a) (hb : SOk w S b) (hc : SOk w S c) (he : Dfd b cn' c e)
include h ha hb hc he in
/-- Join's only error along a chain is that there are too many -/
theorem Leads.err (hm : joinE j e ≠ 0) : joinE j e = 111 := by
  have oj := chkD_ok h.fit
  have oe := chkD_ok he.fit
  have hap : ∀ g ∈ e.gone.toL, g ∉ j.gone.toL := fun g hg hgj => by
    rw [he.gone] at hg
    have h1 := ((dGone_mem hb hc g).1 hg).1
    rw [← keyIn_cl, ← h.lead, keyIn_jS (cS_rise ha.rise) (cS_rise oj.set) oj.gone] at h1
    rcases h1 with h1 | ⟨_, h1⟩
    · obtain ⟨x, hx, ex⟩ := keyIn_cl.1 h1
      exact oj.apart g hgj x hx ex
    · exact h1 hgj
  have h3 := (jGone_apart oj oe).2 hap
  unfold joinE at hm ⊢
  rw [if_neg (by simpa using h.fit), if_neg (by simpa using he.fit), if_neg h3] at hm ⊢
  by_cases h4 : 64 < (jSet j e).length ∨ 64 < (jAll j e).length
  · rw [if_pos h4]
  · rw [if_neg h4] at hm; exact (hm rfl).elim
include h ha hb hc he in
theorem Leads.next (hk : Jnd j e k) (hn : k.set.n ≤ 64 ∧ k.gone.n ≤ 64) : Leads a k cn' c := by
  have oj := chkD_ok h.fit
  have oe := chkD_ok he.fit
  refine ⟨hk.num.trans he.num, hk.ok h.fit he.fit hn.1 hn.2, ?_⟩
  rw [hk.cl, hk.goneC, ← jS_assoc (cS_rise ha.rise) (cS_rise oj.set) (cS_rise oe.set) oj.gone oe.gone, h.lead]
  exact he.back hb hc
include h in
/-- Apply of what leads from a to b: b, or a key is missing -/
theorem Leads.apply {an : Int} (ca : chkState ⟨an, a.p, a.n, a.c, a.item⟩ = 0) (nb : b.n ≤ 64) : (applyE an a j ≠ 0 → applyE an a j = 110) ∧ ∀ v, Apd a j v → LsAlk v b := by
  refine ⟨fun hn => (applyE_110 ca h.fit ?_ hn).1, fun v hv => LsAlk.ofC (by rw [hv.cl]; exact h.lead)⟩
  have h1 : (jS a.toL j.gone.toL j.set.toL).length = b.n := by
    have h2 := jS_cn a.toL j.gone.toL j.set.toL
    have h3 : jS a.cl j.gone.toL j.set.cl = (jS a.toL j.gone.toL j.set.toL).map cn := h2
    rw [← cl_len b, ← h.lead, h3, List.length_map]
  omega
end
end Go.Proofs.Ytckopbkhpbhljaa
