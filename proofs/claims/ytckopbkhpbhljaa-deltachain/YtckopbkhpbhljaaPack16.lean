import Derived.Test.YtckopbkhpbhljaaPack3
import Derived.Test.YtckopbkhpbhljaaPack5
import Derived.Test.YtckopbkhpbhljaaPack12
import Derived.Test.YtckopbkhpbhljaaPack15
import Derived.Deep.DeepCutAuto
namespace Go.Proofs.Ytckopbkhpbhljaa
open Go.RowKit
set_option maxRecDepth 8000

/-- a delta -/
structure DT where
  num : Int
  set : LT VT
  gone : LT ByteArray
def DT.val (d : DT) : Value := .agg #[.int .i64 d.num, .slice d.set.p d.set.n d.set.c, .slice d.gone.p d.gone.n d.gone.c]
structure DT.In (w : World) (S : Nat → Prop) (d : DT) : Prop where
  set : LT.In elCell w S d.set
  gone : LT.In elStr w S d.gone
  n0 : -9223372036854775808 ≤ d.num
  n1 : d.num ≤ 9223372036854775807
theorem DT.In.kept {w w' : World} {S : Nat → Prop} {d : DT} (h : DT.In w S d) (hs : w.heap.size ≤ w'.heap.size) (hb : ∀ b, S b → b < w.heap.size → w'.heap[b]? = w.heap[b]?) : DT.In w' S d := ⟨h.set.kept hs hb, h.gone.kept hs hb, h.n0, h.n1⟩
theorem DT.In.mono {w : World} {S S' : Nat → Prop} {d : DT} (h : DT.In w S d) (hb : ∀ b, S b → b < w.heap.size → S' b) : DT.In w S' d := ⟨h.set.mono hb, h.gone.mono hb, h.n0, h.n1⟩
theorem DT.In.below {w w' : World} {S : Nat → Prop} {d : DT} (h : DT.In w S d) (hb : Below w.heap.size w w') : DT.In w' S d := h.kept hb.size fun b _ hl => hb.block b hl
theorem LT.toST {w : World} {S : Nat → Prop} {l : LT VT} (h : LT.In elCell w S l) {num : Int} (h0 : -9223372036854775808 ≤ num) (h1 : num ≤ 9223372036854775807) : ST.In w S ⟨num, l.p, l.n, l.c, l.item⟩ := by
  refine ⟨fun hn => ?_, h.each, h.nc, h.nn, h.cc, h0, h1⟩
  obtain ⟨b, o, e, hS, hl, ha⟩ := h.at_ hn
  exact ⟨b, o, e, hS, hl, fun j hj => ⟨ha j hj 0 _ rfl, ha j hj 1 _ rfl⟩⟩
def hasK (xs : List VT) (key : ByteArray) : Bool := xs.any fun c => c.text.toList == key.toList
set_option maxHeartbeats 1000000 in
theorem setsOne (c : VT) (kb : Nat) (key : ByteArray) (w : World) (hk : Box w kb #[.string key] 9) : Calls Try.prog 69 #[.agg #[.string c.text, .slice c.p c.n c.c], .pointer (some ⟨kb, 0, none⟩)] w fun e w' => e = .returned (.bool (c.text.toList == key.toList)) ∧ Below w.heap.size w w' := by
  have k0 := hk.cell 0
  have kl := hk.lt
  simp at k0
  go_enter Try.func69, Try.ntmps69
  go_wp2
  exact bodyPost_ret (v := .bool (c.text.toList == key.toList)) (by simp [results, Try.results69, go_sem]) rfl ⟨rfl, (Below.refl _ _).alloc (Nat.le_refl _) _⟩
set_option maxHeartbeats 2000000 in
theorem idxK (l : LT VT) (kb : Nat) (key : ByteArray) (w : World) (S : Nat → Prop) (hin : LT.In elCell w S l) (hk : Box w kb #[.string key] 9) : Calls Try.prog 83 #[.slice l.p l.n l.c, .func (.func 69) #[] #[.pointer (some ⟨kb, 0, none⟩)]] w fun e w' => ∃ i : Int, e = .returned (.int .i64 i) ∧ decide (0 ≤ i) = hasK l.toL key ∧ Below w.heap.size w w' := by
  have HI := hid hin
  have HK := hid hk
  have hnn := hin.nn
  clear hin hk
  go_enter Try.func83, Try.ntmps83
  go_wp2_with fail
  go_loopw [8] (fun x wr => ∃ k : Nat, k ≤ l.n ∧ x = .int .i64 (k : Int) ∧ (∀ q, q < k → ((l.item q).text.toList == key.toList) = false) ∧ Below w.heap.size w wr) (fun x _ => l.n - (intOf x).toNat)
  case atStart => exact ⟨0, Nat.zero_le _, rfl, fun q hq => absurd hq (by omega), Below.refl _ _⟩
  case round =>
    obtain ⟨k, hk, rfl, hno, hbel⟩ := hrel
    have HNo := hid hno
    have HB := hid hbel
    clear hno
    by_cases hlt : k < l.n
    · have hlt' : (k : Int) < (l.n : Int) := by omega
      obtain ⟨bb, o, hp, hSb, hbl, hat⟩ := HI.out.at_ (by omega)
      rw [hp]
      have hcell : ∀ r u, (elCell.cells (l.item k))[r]? = some u → wr.cell? ⟨bb, o + k * 2 + r, none⟩ = some u := fun r u hu => (World.cell?_of_block (a := ⟨bb, o + k * 2 + r, none⟩) (hbel.block bb hbl)).trans (hat k hlt r u hu)
      have c0 : wr.cell? ⟨bb, o + k * 2, none⟩ = some (.string (l.item k).text) := hcell 0 _ rfl
      have c1 : wr.cell? ⟨bb, o + k * 2 + 1, none⟩ = some (.slice (l.item k).p (l.item k).n (l.item k).c) := hcell 1 _ rfl
      have hbl2 : bb < wr.heap.size := Nat.lt_of_lt_of_le hbl hbel.size
      have HC := hid (setsOne (l.item k) kb key wr (HK.out.below hbel))
      clear hcell hat hbel
      go_wp2_with fail
      refine HC.out.mono ?_
      rintro e w1 ⟨rfl, hb1⟩
      have HB1 : Hid (Below w.heap.size w w1) := HB.out.trans (hb1.mono HB.out.size)
      clear hb1 c0 c1
      cases hx : ((l.item k).text.toList == key.toList) with
      | true =>
        go_wp2
        refine bodyPost_ret (v := .int .i64 (k : Int)) (by simp [results, Try.results83, go_sem]) rfl ⟨k, rfl, ?_, HB1.out⟩
        have h1 : hasK l.toL key = true := List.any_eq_true.2 ⟨l.item k, List.mem_of_getElem? (LT.toL_get l hlt), hx⟩
        rw [h1]
        simp
      | false =>
        go_wp2
        go_roundw
        case rel =>
          refine ⟨k + 1, by omega, by go_num, fun q hq => ?_, HB1.out⟩
          by_cases hqk : q < k
          · exact HNo.out q hqk
          · obtain rfl : q = k := by omega
            exact hx
        case measure => simp [intOf]; omega
    · obtain rfl : k = l.n := by omega
      go_wp2
      refine bodyPost_ret (v := .int .i64 (-1)) (by simp [results, Try.results83, go_sem]) rfl ⟨-1, rfl, ?_, HB.out⟩
      have h1 : hasK l.toL key = false := by
        rw [hasK, List.any_eq_false]
        intro c hc
        obtain ⟨j, hj, e⟩ := LT.mem_toL hc
        rw [← e, HNo.out j hj]
        simp
      rw [h1]
      rfl
set_option maxHeartbeats 1000000 in
theorem containsK (l : LT VT) (kb : Nat) (key : ByteArray) (w : World) (S : Nat → Prop) (hin : LT.In elCell w S l) (hk : Box w kb #[.string key] 9) : Calls Try.prog 68 #[.slice l.p l.n l.c, .func (.func 69) #[] #[.pointer (some ⟨kb, 0, none⟩)]] w fun e w' => e = .returned (.bool (hasK l.toL key)) ∧ Below w.heap.size w w' := by
  have HI := hid (idxK l kb key w S hin hk)
  clear hin hk
  go_enter Try.func68, Try.ntmps68
  go_wp2_with fail
  refine HI.out.mono ?_
  rintro e w1 ⟨i, rfl, hi, hb1⟩
  have HD := hid hi
  have HB := hid hb1
  clear hi hb1
  go_wp2
  exact bodyPost_ret (v := .bool (decide (0 ≤ i))) (by simp [results, Try.results68, go_sem]) rfl ⟨by rw [HD.out], HB.out⟩
set_option maxHeartbeats 2000000 in
/-- sets -/
theorem sets_any (d : DT) (key : ByteArray) (w : World) (S : Nat → Prop) (hin : DT.In w S d) : Calls Try.prog 36 #[.agg #[.int .i64 d.num, .slice d.set.p d.set.n d.set.c, .slice d.gone.p d.gone.n d.gone.c], .string key] w fun e w' => e = .returned (.bool (hasK d.set.toL key)) ∧ Below w.heap.size w w' := by
  obtain ⟨W, hW⟩ : ∃ V, V = (w.alloc (.cells #[.int .i64 d.num, .slice d.set.p d.set.n d.set.c, .slice d.gone.p d.gone.n d.gone.c] 30)).alloc (.cells #[.string key] 9) := ⟨_, rfl⟩
  have hB : Below w.heap.size w W := by rw [hW]; exact ((Below.refl _ _).alloc (Nat.le_refl _) _).alloc (by simp) _
  have hk : Box W (w.heap.size + 1) #[.string key] 9 := by
    have h := Box.new (w.alloc (.cells #[.int .i64 d.num, .slice d.set.p d.set.n d.set.c, .slice d.gone.p d.gone.n d.gone.c] 30)) #[.string key] 9
    rw [show (w.alloc (.cells #[.int .i64 d.num, .slice d.set.p d.set.n d.set.c, .slice d.gone.p d.gone.n d.gone.c] 30)).heap.size = w.heap.size + 1 by simp] at h
    rw [hW]; exact h
  have HI := hid (containsK d.set (w.heap.size + 1) key W S (hin.set.below hB) hk)
  have HB := hid hB
  have HW := hid hW
  clear hin hB hk hW
  go_enter Try.func36, Try.ntmps36
  go_wp2_with fail
  rw [← HW.out]
  refine HI.out.mono ?_
  rintro e w1 ⟨rfl, hb1⟩
  have HBw : Hid (Below w.heap.size w w1) := HB.out.trans (hb1.mono HB.out.size)
  clear hb1
  go_wp2
  exact bodyPost_ret (v := .bool (hasK d.set.toL key)) (by simp [results, Try.results36, go_sem]) rfl ⟨rfl, HBw.out⟩
/-- what is wrong with a key that is to go -/
def chkGone (xs : List VT) (g : Nat → ByteArray) (k : Nat) : Nat := if 12 < (g k).size then 24 else if (0 < k ∧ (Op.bytesLess (g k).toList (g (k - 1)).toList || (g k).toList == (g (k - 1)).toList) = true) ∨ hasK xs (g k) = true then 112 else 0
/-- what is wrong with a delta -/
def chkD (d : DT) : Nat := if chkState ⟨d.num, d.set.p, d.set.n, d.set.c, d.set.item⟩ ≠ 0 then chkState ⟨d.num, d.set.p, d.set.n, d.set.c, d.set.item⟩ else if 64 < d.gone.n then 111 else firstC (chkGone d.set.toL d.gone.item) d.gone.n
set_option maxRecDepth 60000 in
set_option maxHeartbeats 8000000 in
/-- Check -/
theorem checkD_any (d : DT) (w : World) (S : Nat → Prop) (hin : DT.In w S d) (hS : ∀ b, S b → b < w.heap.size) : Calls Try.prog 13 #[.agg #[.int .i64 d.num, .slice d.set.p d.set.n d.set.c, .slice d.gone.p d.gone.n d.gone.c]] w fun e w' => e = .returned (.int .i64 (chkD d)) ∧ Below w.heap.size w w' := by
  obtain ⟨res, hres⟩ : ∃ r, r = chkD d := ⟨_, rfl⟩
  rw [← hres]
  have HE := hid hres
  obtain ⟨cs, hcs⟩ : ∃ c, c = chkState ⟨d.num, d.set.p, d.set.n, d.set.c, d.set.item⟩ := ⟨_, rfl⟩
  obtain ⟨W, hW⟩ : ∃ V, V = w.alloc (.cells #[.int .i64 d.num, .slice d.set.p d.set.n d.set.c, .slice d.gone.p d.gone.n d.gone.c] 30) := ⟨_, rfl⟩
  have hB : Below w.heap.size w W := by rw [hW]; exact (Below.refl _ _).alloc (Nat.le_refl _) _
  have hx : Box W w.heap.size #[.int .i64 d.num, .slice d.set.p d.set.n d.set.c, .slice d.gone.p d.gone.n d.gone.c] 30 := by rw [hW]; exact Box.new _ _ _
  have HC := hid (checkState_any ⟨d.num, d.set.p, d.set.n, d.set.c, d.set.item⟩ W S (LT.toST (hin.set.below hB) hin.n0 hin.n1) (fun b hb => Nat.lt_of_lt_of_le (hS b hb) hB.size))
  rw [← hcs] at HC
  unfold ST.val at HC
  have HI := hid hin
  have hnn := hin.gone.nn
  have HB := hid hB
  have HW := hid hW
  have HX := hid hx
  have HCs := hid hcs
  have x0 := hx.cell 0
  have x1 := hx.cell 1
  have xl := hx.lt
  simp at x0 x1
  clear hin hS hB hW hx hcs hres
  go_enter Try.func13, Try.ntmps13
  go_upto_region 1 with fail
  rw [← HW.out]
  go_wp2_with fail
  refine HC.out.mono ?_
  rintro e w1 ⟨rfl, hb1⟩
  have HB1 := hid hb1
  clear hb1 x0 x1 xl HC
  by_cases hc0 : cs = 0
  · have hc1 : ((cs : Int) != 0) = false := by simp [hc0]
    have hx1 := HX.out.below HB1.out
    have y1 := hx1.cell 1
    have y2 := hx1.cell 2
    have yl := hx1.lt
    simp at y1 y2
    have HC0 := hid hc0
    clear hx1 hc0
    by_cases h64 : 64 < d.gone.n
    · have h64' : (64 : Int) < (d.gone.n : Int) := by omega
      have HEe : Hid (res = 111) := by show _ = _; rw [HE.out, chkD, ← HCs.out, if_neg (by rw [HC0.out]; simp), if_pos h64]
      go_wp2
      exact bodyPost_ret (v := .int .i64 111) (by simp [results, Try.results13, go_sem]) rfl ⟨by rw [HEe.out]; rfl, HB.out.trans (HB1.out.mono HB.out.size)⟩
    · have h64' : ¬ (64 : Int) < (d.gone.n : Int) := by omega
      have HE2 : Hid (res = firstC (chkGone d.set.toL d.gone.item) d.gone.n) := by show _ = _; rw [HE.out, chkD, ← HCs.out, if_neg (by rw [HC0.out]; simp), if_neg h64]
      have HBa : Hid (Below w.heap.size w w1) := HB.out.trans (HB1.out.mono HB.out.size)
      go_wp2_with fail
      go_loopw [22] (fun x wr => ∃ k : Nat, k ≤ d.gone.n ∧ x = .int .i64 (k : Int) ∧ firstC (chkGone d.set.toL d.gone.item) k = 0 ∧ Below W.heap.size W wr) (fun x _ => d.gone.n - (intOf x).toNat)
      case atStart => exact ⟨0, Nat.zero_le _, rfl, rfl, HB1.out⟩
      case round =>
        obtain ⟨k, hk, rfl, hf, hbel⟩ := hrel
        have HF := hid hf
        have HBl := hid hbel
        have HBw : Hid (Below w.heap.size w wr) := HB.out.trans (hbel.mono HB.out.size)
        clear hf y1 y2 yl
        by_cases hlt : k < d.gone.n
        · have hlt' : (k : Int) < (d.gone.n : Int) := by omega
          have hxr := HX.out.below hbel
          have y0 := hxr.cell 0
          have y1 := hxr.cell 1
          have y2 := hxr.cell 2
          have yl := hxr.lt
          simp at y0 y1 y2
          obtain ⟨bb, o, hp, hSb, hbl, hat⟩ := HI.out.gone.at_ (by omega)
          rw [hp] at y2
          have c0 : ∀ j, j < d.gone.n → wr.cell? ⟨bb, o + j, none⟩ = some (.string (d.gone.item j)) := fun j hj => by
            have h := hat j hj 0 _ rfl
            rw [show o + j * elStr.size + 0 = o + j from by show o + j * 1 + 0 = o + j; omega] at h
            exact (World.cell?_of_block (a := ⟨bb, o + j, none⟩) (HBw.out.block bb hbl)).trans h
          have ck := c0 k hlt
          have HCk := hid c0
          have hbl2 : bb < wr.heap.size := Nat.lt_of_lt_of_le hbl HBw.out.size
          have HSt := hid (sets_any d (d.gone.item k) wr S (HI.out.below HBw.out))
          obtain ⟨g, hg⟩ : ∃ g, g = d.gone.item k := ⟨_, rfl⟩
          rw [← hg] at ck HSt
          rw [hp] at HSt
          have HG := hid hg
          clear hxr hat hbel c0 hg
          rw [hp]
          have HStep : Hid (∀ c, chkGone d.set.toL d.gone.item k = c → c ≠ 0 → res = c) := fun c hc hn => by
            rw [HE2.out, firstC_hit HF.out hlt (by rw [hc]; exact hn), hc]
          by_cases h12 : 12 < g.size
          · have h12' : (12 : Int) < (g.size : Int) := by omega
            have HEe : Hid (res = 24) := HStep.out 24 (by rw [chkGone, ← HG.out, if_pos h12]) (by decide)
            go_wp2
            exact bodyPost_ret (v := .int .i64 24) (by simp [results, Try.results13, go_sem]) rfl ⟨by rw [HEe.out]; rfl, HBw.out⟩
          · have h12' : ¬ (12 : Int) < (g.size : Int) := by omega
            have hret : Hid (chkGone d.set.toL d.gone.item k = 112 → res = 112) := fun h => HStep.out 112 h (by decide)
            have hcg : Hid (chkGone d.set.toL d.gone.item k = if (0 < k ∧ (Op.bytesLess g.toList (d.gone.item (k - 1)).toList || g.toList == (d.gone.item (k - 1)).toList) = true) ∨ hasK d.set.toL g = true then 112 else 0) := by show _ = _; rw [chkGone, ← HG.out, if_neg h12]
            by_cases hk0 : k = 0
            · subst hk0
              simp only [Nat.add_zero] at ck
              go_wp2_with fail
              refine HSt.out.mono ?_
              rintro e w2 ⟨rfl, hb2⟩
              have HB2 : Hid (Below W.heap.size W w2) := HBl.out.trans (hb2.mono HBl.out.size)
              have HBz : Hid (Below w.heap.size w w2) := HB.out.trans (HB2.out.mono HB.out.size)
              clear hb2
              cases hh : hasK d.set.toL g with
              | true =>
                have HEe : Hid (res = 112) := hret.out (by rw [hcg.out, if_pos (.inr hh)])
                go_wp2
                exact bodyPost_ret (v := .int .i64 112) (by simp [results, Try.results13, go_sem]) rfl ⟨by rw [HEe.out]; rfl, HBz.out⟩
              | false =>
                have HZ : Hid (chkGone d.set.toL d.gone.item 0 = 0) := by
                  show _ = _
                  rw [hcg.out, if_neg]
                  rintro (⟨h1, h2⟩ | h2)
                  · omega
                  · rw [hh] at h2; cases h2
                go_wp2
                go_roundw
                case rel => exact ⟨0 + 1, by omega, by go_num, by rw [firstC_succ HF.out]; exact HZ.out, HB2.out⟩
                case measure => simp [intOf]; omega
            · obtain ⟨m, rfl⟩ : ∃ m, k = m + 1 := ⟨k - 1, by omega⟩
              have cp := HCk.out m (by omega)
              obtain ⟨pr, hpr⟩ : ∃ p, p = d.gone.item m := ⟨_, rfl⟩
              rw [← hpr] at cp
              have hPr : Hid (pr = d.gone.item (m + 1 - 1)) := hpr
              clear hpr
              have hpos : (0 : Int) < (m : Int) + 1 := by omega
              cases hle : (Op.bytesLess g.toList pr.toList || g.toList == pr.toList) with
              | true =>
                have HEe : Hid (res = 112) := hret.out (by rw [hcg.out, if_pos (.inl ⟨by omega, by rw [← hPr.out]; exact hle⟩)])
                go_wp2
                exact bodyPost_ret (v := .int .i64 112) (by simp [results, Try.results13, go_sem]) rfl ⟨by rw [HEe.out]; rfl, HBw.out⟩
              | false =>
                go_wp2_with fail
                refine HSt.out.mono ?_
                rintro e w2 ⟨rfl, hb2⟩
                have HB2 : Hid (Below W.heap.size W w2) := HBl.out.trans (hb2.mono HBl.out.size)
                have HBz : Hid (Below w.heap.size w w2) := HB.out.trans (HB2.out.mono HB.out.size)
                clear hb2
                cases hh : hasK d.set.toL g with
                | true =>
                  have HEe : Hid (res = 112) := hret.out (by rw [hcg.out, if_pos (.inr hh)])
                  go_wp2
                  exact bodyPost_ret (v := .int .i64 112) (by simp [results, Try.results13, go_sem]) rfl ⟨by rw [HEe.out]; rfl, HBz.out⟩
                | false =>
                  have HZ : Hid (chkGone d.set.toL d.gone.item (m + 1) = 0) := by
                    show _ = _
                    rw [hcg.out, if_neg]
                    rintro (⟨h1, h2⟩ | h2)
                    · rw [← hPr.out, hle] at h2; cases h2
                    · rw [hh] at h2; cases h2
                  go_wp2
                  go_roundw
                  case rel => exact ⟨(m + 1) + 1, by omega, by go_num, by rw [firstC_succ HF.out]; exact HZ.out, HB2.out⟩
                  case measure => simp [intOf]; omega
        · obtain rfl : k = d.gone.n := by omega
          have HEe : Hid (res = 0) := by show _ = _; rw [HE2.out, HF.out]
          go_wp2
          exact bodyPost_ret (v := .int .i64 0) (by simp [results, Try.results13, go_sem]) rfl ⟨by rw [HEe.out]; rfl, HBw.out⟩
  · have hc1 : ((cs : Int) != 0) = true := by simp; omega
    have HEe : Hid (res = cs) := by show _ = _; rw [HE.out, chkD, ← HCs.out, if_pos hc0]
    go_wp2
    exact bodyPost_ret (v := .int .i64 (cs : Int)) (by simp [results, Try.results13, go_sem]) rfl ⟨by rw [HEe.out], HB.out.trans (HB1.out.mono HB.out.size)⟩
end Go.Proofs.Ytckopbkhpbhljaa

namespace Go.Proofs.Ytckopbkhpbhljaa
open Go.RowKit
set_option maxRecDepth 8000
set_option maxHeartbeats 2000000 in
theorem first_De (a b : DT) (w : World) (S : Nat → Prop) (ha : DT.In w S a) (hb : DT.In w S b) (hS : ∀ k, S k → k < w.heap.size) (res : Nat) (hres : res = if chkD a ≠ 0 then chkD a else chkD b) :
    Calls Try.prog 46 #[.func (.func 13) #[] #[], .agg #[.int .i64 a.num, .slice a.set.p a.set.n a.set.c, .slice a.gone.p a.gone.n a.gone.c], .agg #[.int .i64 b.num, .slice b.set.p b.set.n b.set.c, .slice b.gone.p b.gone.n b.gone.c]] w fun e w' => e = .returned (.int .i64 (res : Int)) ∧ Below w.heap.size w w' := by
  obtain ⟨W, hW⟩ : ∃ V, V = (w.alloc (.cells #[.int .i64 a.num, .slice a.set.p a.set.n a.set.c, .slice a.gone.p a.gone.n a.gone.c] 30)).alloc (.cells #[.int .i64 b.num, .slice b.set.p b.set.n b.set.c, .slice b.gone.p b.gone.n b.gone.c] 30) := ⟨_, rfl⟩
  have hB : Below w.heap.size w W := by rw [hW]; exact ((Below.refl _ _).alloc (Nat.le_refl _) _).alloc (by simp) _
  have hx0 : Box W w.heap.size #[.int .i64 a.num, .slice a.set.p a.set.n a.set.c, .slice a.gone.p a.gone.n a.gone.c] 30 := by rw [hW]; exact (Box.new w _ _).below ((Below.refl _ _).alloc (Nat.le_refl _) _)
  have hx1 : Box W (w.heap.size + 1) #[.int .i64 b.num, .slice b.set.p b.set.n b.set.c, .slice b.gone.p b.gone.n b.gone.c] 30 := by
    have h := Box.new (w.alloc (.cells #[.int .i64 a.num, .slice a.set.p a.set.n a.set.c, .slice a.gone.p a.gone.n a.gone.c] 30)) #[.int .i64 b.num, .slice b.set.p b.set.n b.set.c, .slice b.gone.p b.gone.n b.gone.c] 30
    rw [show (w.alloc (.cells #[.int .i64 a.num, .slice a.set.p a.set.n a.set.c, .slice a.gone.p a.gone.n a.gone.c] 30)).heap.size = w.heap.size + 1 by simp] at h
    rw [hW]; exact h
  obtain ⟨ca, hca⟩ : ∃ c, c = chkD a := ⟨_, rfl⟩
  obtain ⟨cb, hcb⟩ : ∃ c, c = chkD b := ⟨_, rfl⟩
  have HC1 : Hid (Calls Try.prog 13 #[.agg #[.int .i64 a.num, .slice a.set.p a.set.n a.set.c, .slice a.gone.p a.gone.n a.gone.c]] W fun e w' => e = .returned (.int .i64 (ca : Int)) ∧ Below W.heap.size W w') := by rw [hca]; exact checkD_any a W S (ha.below hB) (fun k hk => Nat.lt_of_lt_of_le (hS k hk) hB.size)
  have HC2 : Hid (∀ V, Below W.heap.size W V → Calls Try.prog 13 #[.agg #[.int .i64 b.num, .slice b.set.p b.set.n b.set.c, .slice b.gone.p b.gone.n b.gone.c]] V fun e w' => e = .returned (.int .i64 (cb : Int)) ∧ Below V.heap.size V w') := fun V hV => by rw [hcb]; exact checkD_any b V S ((hb.below hB).below hV) (fun k hk => Nat.lt_of_lt_of_le (hS k hk) (Nat.le_trans hB.size hV.size))
  have HRes : Hid (res = if ca ≠ 0 then ca else cb) := by show _ = _; rw [hres, hca, hcb]
  have HB := hid hB
  have HW := hid hW
  have HX1 := hid hx1
  have x0 := hx0.cell 0
  have x1 := hx0.cell 1
  have x2 := hx0.cell 2
  have xl := hx0.lt
  simp at x0 x1 x2
  clear ha hb hS hB hW hx0 hx1 hres hca hcb
  go_enter Try.func46, Try.ntmps46
  go_upto_region 1 with fail
  rw [← HW.out]
  go_wp2_with fail
  refine HC1.out.mono ?_
  rintro e w1 ⟨rfl, hb1⟩
  have HB1 := hid hb1
  have hx1 := HX1.out.below hb1
  have y0 := hx1.cell 0
  have y1 := hx1.cell 1
  have y2 := hx1.cell 2
  have yl := hx1.lt
  simp at y0 y1 y2
  have HBa : Hid (Below w.heap.size w w1) := HB.out.trans (hb1.mono HB.out.size)
  clear hb1 hx1 HC1 xl x0 x1 x2
  by_cases hc : ca = 0
  · have hc1 : ((ca : Int) != 0) = false := by simp [hc]
    have HR2 : Hid (res = cb) := by show _ = _; rw [HRes.out, if_neg (by simp [hc])]
    clear hc
    go_wp2_with fail
    refine (HC2.out _ HB1.out).mono ?_
    rintro e w2 ⟨rfl, hb2⟩
    have HBz : Hid (Below w.heap.size w w2) := HBa.out.trans (hb2.mono HBa.out.size)
    clear hb2
    go_wp2
    exact bodyPost_ret (v := .int .i64 (cb : Int)) (by simp [results, Try.results46, go_sem]) rfl ⟨by rw [HR2.out], HBz.out⟩
  · have hc1 : ((ca : Int) != 0) = true := by simp; omega
    have HR2 : Hid (res = ca) := by show _ = _; rw [HRes.out, if_pos hc]
    clear hc
    go_wp2
    exact bodyPost_ret (v := .int .i64 (ca : Int)) (by simp [results, Try.results46, go_sem]) rfl ⟨by rw [HR2.out], HBa.out⟩
set_option maxHeartbeats 2000000 in
theorem first_St (a b : ST) (w : World) (S : Nat → Prop) (ha : ST.In w S a) (hb : ST.In w S b) (hS : ∀ k, S k → k < w.heap.size) (res : Nat) (hres : res = if chkState a ≠ 0 then chkState a else chkState b) :
    Calls Try.prog 31 #[.func (.func 30) #[] #[], .agg #[.int .i64 a.num, .slice a.p a.n a.c], .agg #[.int .i64 b.num, .slice b.p b.n b.c]] w fun e w' => e = .returned (.int .i64 (res : Int)) ∧ Below w.heap.size w w' := by
  obtain ⟨W, hW⟩ : ∃ V, V = (w.alloc (.cells #[.int .i64 a.num, .slice a.p a.n a.c] 24)).alloc (.cells #[.int .i64 b.num, .slice b.p b.n b.c] 24) := ⟨_, rfl⟩
  have hB : Below w.heap.size w W := by rw [hW]; exact ((Below.refl _ _).alloc (Nat.le_refl _) _).alloc (by simp) _
  have hx0 : Box W w.heap.size #[.int .i64 a.num, .slice a.p a.n a.c] 24 := by rw [hW]; exact (Box.new w _ _).below ((Below.refl _ _).alloc (Nat.le_refl _) _)
  have hx1 : Box W (w.heap.size + 1) #[.int .i64 b.num, .slice b.p b.n b.c] 24 := by
    have h := Box.new (w.alloc (.cells #[.int .i64 a.num, .slice a.p a.n a.c] 24)) #[.int .i64 b.num, .slice b.p b.n b.c] 24
    rw [show (w.alloc (.cells #[.int .i64 a.num, .slice a.p a.n a.c] 24)).heap.size = w.heap.size + 1 by simp] at h
    rw [hW]; exact h
  obtain ⟨ca, hca⟩ : ∃ c, c = chkState a := ⟨_, rfl⟩
  obtain ⟨cb, hcb⟩ : ∃ c, c = chkState b := ⟨_, rfl⟩
  have HC1 : Hid (Calls Try.prog 30 #[.agg #[.int .i64 a.num, .slice a.p a.n a.c]] W fun e w' => e = .returned (.int .i64 (ca : Int)) ∧ Below W.heap.size W w') := by rw [hca]; exact checkState_any a W S (ha.below hB) (fun k hk => Nat.lt_of_lt_of_le (hS k hk) hB.size)
  have HC2 : Hid (∀ V, Below W.heap.size W V → Calls Try.prog 30 #[.agg #[.int .i64 b.num, .slice b.p b.n b.c]] V fun e w' => e = .returned (.int .i64 (cb : Int)) ∧ Below V.heap.size V w') := fun V hV => by rw [hcb]; exact checkState_any b V S ((hb.below hB).below hV) (fun k hk => Nat.lt_of_lt_of_le (hS k hk) (Nat.le_trans hB.size hV.size))
  have HRes : Hid (res = if ca ≠ 0 then ca else cb) := by show _ = _; rw [hres, hca, hcb]
  have HB := hid hB
  have HW := hid hW
  have HX1 := hid hx1
  have x0 := hx0.cell 0
  have x1 := hx0.cell 1
  have xl := hx0.lt
  simp at x0 x1
  clear ha hb hS hB hW hx0 hx1 hres hca hcb
  go_enter Try.func31, Try.ntmps31
  go_upto_region 1 with fail
  rw [← HW.out]
  go_wp2_with fail
  refine HC1.out.mono ?_
  rintro e w1 ⟨rfl, hb1⟩
  have HB1 := hid hb1
  have hx1 := HX1.out.below hb1
  have y0 := hx1.cell 0
  have y1 := hx1.cell 1
  have yl := hx1.lt
  simp at y0 y1
  have HBa : Hid (Below w.heap.size w w1) := HB.out.trans (hb1.mono HB.out.size)
  clear hb1 hx1 HC1 xl x0 x1
  by_cases hc : ca = 0
  · have hc1 : ((ca : Int) != 0) = false := by simp [hc]
    have HR2 : Hid (res = cb) := by show _ = _; rw [HRes.out, if_neg (by simp [hc])]
    clear hc
    go_wp2_with fail
    refine (HC2.out _ HB1.out).mono ?_
    rintro e w2 ⟨rfl, hb2⟩
    have HBz : Hid (Below w.heap.size w w2) := HBa.out.trans (hb2.mono HBa.out.size)
    clear hb2
    go_wp2
    exact bodyPost_ret (v := .int .i64 (cb : Int)) (by simp [results, Try.results31, go_sem]) rfl ⟨by rw [HR2.out], HBz.out⟩
  · have hc1 : ((ca : Int) != 0) = true := by simp; omega
    have HR2 : Hid (res = ca) := by show _ = _; rw [HRes.out, if_pos hc]
    clear hc
    go_wp2
    exact bodyPost_ret (v := .int .i64 (ca : Int)) (by simp [results, Try.results31, go_sem]) rfl ⟨by rw [HR2.out], HBa.out⟩
/-- two deltas alike -/
structure DT.Alike (d e : DT) : Prop where
  num : e.num = d.num
  sn : e.set.n = d.set.n
  set : ∀ j, j < d.set.n → VT.Alike (d.set.item j) (e.set.item j)
  gn : e.gone.n = d.gone.n
  gone : ∀ j, j < d.gone.n → e.gone.item j = d.gone.item j
set_option maxHeartbeats 2000000 in
/-- fresh.Delta -/
theorem freshD (d : DT) (w : World) (S : Nat → Prop) (hin : DT.In w S d) (hn : d.set.n ≤ 10000) (hg : d.gone.n ≤ 10000) (ht : ∀ j, j < d.set.n → (d.set.item j).total ≤ 10000) :
    Calls Try.prog 35 #[.agg #[.int .i64 d.num, .slice d.set.p d.set.n d.set.c, .slice d.gone.p d.gone.n d.gone.c]] w fun e w' => ∃ u : DT, e = .returned (.agg #[.int .i64 u.num, .slice u.set.p u.set.n u.set.c, .slice u.gone.p u.gone.n u.gone.c]) ∧ DT.Alike d u ∧ DT.In w' (fun b => w.heap.size ≤ b) u ∧ Below w.heap.size w w' := by
  have HL : Hid (∀ W, Below w.heap.size w W → Calls Try.prog 64 #[.slice d.set.p d.set.n d.set.c, .func (.func 65) #[] #[]] W fun e w' => ∃ u : LT VT, e = .returned (.slice u.p u.n u.c) ∧ u.n = d.set.n ∧ (∀ j, j < d.set.n → VT.Alike (d.set.item j) (u.item j)) ∧ LT.In elCell w' (fun b => W.heap.size ≤ b) u ∧ Below W.heap.size W w') := fun W hW =>
    flC VT.Alike d.set W (fun b => S b ∧ b < w.heap.size) ((hin.set.mono fun b hb hl => ⟨hb, hl⟩).kept hW.size (fun b hb _ => hW.block b hb.2)) hn
      (fun j hj W2 hW2 => freshC (d.set.item j) W2 (fun b => S b ∧ b < w.heap.size) (VT.In.kept ((hin.set.each j hj).mono fun b hb hl => ⟨hb, hl⟩) (Nat.le_trans hW.size hW2.size) (fun b hb _ => (hW2.block b (by have := hW.size; omega)).trans (hW.block b hb.2))) (ht j hj))
  have HG : Hid (∀ W, Below w.heap.size w W → Calls Try.prog 66 #[.slice d.gone.p d.gone.n d.gone.c, .func (.func 67) #[] #[]] W fun e w' => ∃ u : LT ByteArray, e = .returned (.slice u.p u.n u.c) ∧ u.n = d.gone.n ∧ (∀ j, j < d.gone.n → u.item j = d.gone.item j) ∧ LT.In elStr w' (fun b => W.heap.size ≤ b) u ∧ Below W.heap.size W w') := fun W hW => by
    have h := flS (fun x y => y = x) d.gone W (fun b => S b ∧ b < w.heap.size) ((hin.gone.mono fun b hb hl => ⟨hb, hl⟩).kept hW.size (fun b hb _ => hW.block b hb.2)) hg
      (fun j hj W2 hW2 => (clone_any (d.gone.item j) W2 (hin.gone.each j hj)).mono fun e w' h => ⟨d.gone.item j, h.1, rfl, hin.gone.each j hj, h.2⟩)
    exact h
  have HT := hid (TwoK.start w #[.int .i64 d.num, .slice d.set.p d.set.n d.set.c, .slice d.gone.p d.gone.n d.gone.c] #[.int .i64 0, .slice none 0 0, .slice none 0 0] 30)
  have HN := hid (And.intro hin.n0 hin.n1)
  clear hin ht
  go_enter Try.func35, Try.ntmps35
  go_wp2_with fail
  refine (HL.out _ HT.out.bel).mono ?_
  rintro e w2 ⟨u, rfl, hn2, hal, hin2, hb2⟩
  have HT3 := hid (HT.out.below hb2)
  have HU := hid (And.intro hn2 (And.intro hal hin2))
  have m0 := HT3.out.ba.lt
  have y0 := HT3.out.ba.cell 0
  have y1 := HT3.out.ba.cell 1
  have y2 := HT3.out.ba.cell 2
  have g1 := HT3.out.ba.frozen 1
  simp at y0 y1 y2
  have hsz := hb2.size
  simp at hsz
  clear hal hin2 hb2 HT HL hn2
  obtain ⟨V2, hV2⟩ : ∃ V, V = w2.setCell ⟨w.heap.size, 1, none⟩ (.slice u.p u.n u.c) := ⟨_, rfl⟩
  have hT4 := HT3.out.setA 1 (.slice u.p u.n u.c)
  rw [← hV2] at hT4
  simp only [List.setIfInBounds_toArray, List.set_cons_zero, List.set_cons_succ] at hT4
  have HT4 := hid hT4
  have hbV : But (fun x => x = w.heap.size) w2 V2 := by rw [hV2]; exact (But.one w2 w.heap.size).setAt 1 _
  have HBV := hid hbV
  have HV2 := hid hV2
  clear hT4 hbV hV2
  go_upto_region 2 with fail
  rw [← HV2.out]
  have n0 := HT4.out.ba.cell 0
  have n1 := HT4.out.ba.cell 1
  have n2 := HT4.out.ba.cell 2
  have nl := HT4.out.ba.lt
  simp at n0 n1 n2
  clear y0 y1 y2 g1 m0
  go_wp2_with fail
  refine (HG.out _ HT4.out.bel).mono ?_
  rintro e w3 ⟨v, rfl, hn3, hal3, hin3, hb3⟩
  have HT5 := hid (HT4.out.below hb3)
  have HV := hid (And.intro hn3 (And.intro hal3 (And.intro hin3 hb3)))
  have y0 := HT5.out.ba.cell 0
  have y1 := HT5.out.ba.cell 1
  have y2 := HT5.out.ba.cell 2
  have g2 := HT5.out.ba.frozen 2
  have z0 := HT5.out.bb.cell 0
  have z1 := HT5.out.bb.cell 1
  have z2 := HT5.out.bb.cell 2
  have k0 := HT5.out.bb.frozen 0
  have k1 := HT5.out.bb.frozen 1
  have k2 := HT5.out.bb.frozen 2
  have m0 := HT5.out.ba.lt
  have m1 := HT5.out.bb.lt
  simp at y0 y1 y2 z0 z1 z2
  have hsz3 := hb3.size
  have hszV := HBV.out.size
  clear hn3 hal3 hin3 hb3 HG n0 n1 n2 nl
  go_wp2
  have HT6 := (((HT5.out.setA 2 (.slice v.p v.n v.c)).setB 0 (.int .i64 d.num)).setB 1 (.slice u.p u.n u.c)).setB 2 (.slice v.p v.n v.c)
  have hbt : But (fun x => x = w.heap.size ∨ x = w.heap.size + 1) w3 ((((w3.setCell ⟨w.heap.size, 2, none⟩ (.slice v.p v.n v.c)).setCell ⟨w.heap.size + 1, 0, none⟩ (.int .i64 d.num)).setCell ⟨w.heap.size + 1, 1, none⟩ (.slice u.p u.n u.c)).setCell ⟨w.heap.size + 1, 2, none⟩ (.slice v.p v.n v.c)) :=
    ((((But.refl _ w3).setCell (fun _ => Or.inl rfl) _).setCell (fun _ => Or.inr rfl) _).setCell (fun _ => Or.inr rfl) _).setCell (fun _ => Or.inr rfl) _
  obtain ⟨hn2, hal, hin2⟩ := HU.out
  obtain ⟨hn3, hal3, hin3, hb3⟩ := HV.out
  refine bodyPost_ret (v := .agg #[.int .i64 d.num, .slice u.p u.n u.c, .slice v.p v.n v.c]) (by simp [results, Try.results35, go_sem, z0, z1, z2]) rfl ⟨⟨d.num, u, v⟩, rfl, ⟨rfl, hn2, hal, hn3, hal3⟩, ⟨?_, ?_, HN.out.1, HN.out.2⟩, HT6.bel⟩
  · have h1 : LT.In elCell V2 (fun b => w.heap.size + 2 ≤ b) u := (hin2.mono (S' := fun b => w.heap.size + 2 ≤ b) (fun b hb _ => by simpa using hb)).kept HBV.out.size (fun b hb hl => HBV.out.block b hl (by omega))
    exact ((h1.below hb3).kept hbt.size (fun b hb hl => hbt.block b hl (by omega))).mono (S' := fun b => w.heap.size ≤ b) (fun b hb _ => by omega)
  · have h1 : LT.In elStr w3 (fun b => w.heap.size + 2 ≤ b) v := hin3.mono (S' := fun b => w.heap.size + 2 ≤ b) (fun b hb _ => by omega)
    exact (h1.kept hbt.size (fun b hb hl => hbt.block b hl (by omega))).mono (S' := fun b => w.heap.size ≤ b) (fun b hb _ => by omega)
end Go.Proofs.Ytckopbkhpbhljaa
