import Derived.Test.YtckopbkhpbhljaaDlT
import Derived.Test.YtckopbkhpbhljaaDlN
import Derived.Test.YtckopbkhpbhljaaDlL
namespace Go.Proofs.Ytckopbkhpbhljaa
open Go.RowKit
set_option maxRecDepth 8000

def v7 : VT := .mk 1 7 ⟨#[]⟩ 0 none 0 (fun _ => .nil)
def ck (b : Nat) : VT := .mk 0 0 ⟨#[107]⟩ 1 (some ⟨b, 0, none⟩) 1 (fun _ => v7)
def bL (b : Nat) : LT VT := ⟨some ⟨b + 1, 0, none⟩, 1, 1, fun _ => ck b⟩
def nL : LT VT := ⟨none, 0, 0, fun _ => zC⟩
theorem nL_in (w : World) (S : Nat → Prop) : LT.In elCell w S nL := LT.In.none_ _ _ _ none 0 _ (Nat.zero_le _) (fun _ => rfl)
theorem v7_in (w : World) (S : Nat → Prop) : VT.In w S v7 := by
  unfold v7
  refine ⟨⟨?_, ?_, ?_, ?_, ?_, ?_, ?_, ?_, ?_⟩, fun h => absurd h (by omega), fun j hj => absurd hj (by omega)⟩ <;> simp [VT.kind, VT.int, VT.text, VT.n, VT.c, VT.p, ByteArray.size]
theorem ck_in {w W : World} {S : Nat → Prop} (h0 : Box W w.heap.size #[.int .i64 1, .int .i64 7, .string ⟨#[]⟩, .slice none 0 0] 60) (hS : S w.heap.size) : VT.In W S (ck w.heap.size) := by
  unfold ck
  refine ⟨⟨?_, ?_, ?_, ?_, ?_, ?_, ?_, ?_, ?_⟩, fun _ => ⟨w.heap.size, 0, rfl, hS, h0.lt, fun j hj => ?_⟩, fun j _ => v7_in _ _⟩
  any_goals (simp [VT.kind, VT.int, VT.text, VT.n, VT.c, VT.p, ByteArray.size, maxLen]; done)
  obtain rfl : j = 0 := by omega
  exact ⟨h0.cell 0, h0.cell 1, h0.cell 2, h0.cell 3⟩
theorem bL_in {w W : World} {S : Nat → Prop} (h0 : Box W w.heap.size #[.int .i64 1, .int .i64 7, .string ⟨#[]⟩, .slice none 0 0] 60) (h1 : Box W (w.heap.size + 1) #[.string ⟨#[107]⟩, .slice (some ⟨w.heap.size, 0, none⟩) 1 1] 62) (hS : S w.heap.size) (hS1 : S (w.heap.size + 1)) : LT.In elCell W S (bL w.heap.size) := by
  refine ⟨fun _ => ⟨w.heap.size + 1, 0, rfl, hS1, h1.lt, fun j hj r u hu => ?_⟩, fun j _ => ck_in h0 hS, by show 1 ≤ 1; omega, by show 1 ≤ _; omega, by show 1 ≤ maxLen; simp [maxLen], fun h => by cases h⟩
  obtain rfl : j = 0 := by have : j < 1 := hj; omega
  match r, hu with
  | 0, hu => obtain rfl : _ = u := Option.some.inj hu; exact h1.cell 0
  | 1, hu => obtain rfl : _ = u := Option.some.inj hu; exact h1.cell 1
theorem chk_nL (n : Int) (h0 : 0 ≤ n) (h1 : n ≤ 1073741824) : chkState ⟨n, nL.p, nL.n, nL.c, nL.item⟩ = 0 := by
  unfold chkState
  rw [if_neg (by simp only; omega), if_neg (by show ¬ 64 < 0; omega)]
  rfl
theorem chk_bL (b : Nat) : chkState ⟨3, (bL b).p, (bL b).n, (bL b).c, (bL b).item⟩ = 0 := by
  simp [chkState, bL, firstC, chkCell, ck, VT.text, chkVals, VT.n, VT.item, v7, chk, stepN, fitB, ByteArray.size]
theorem dEv_b (b : Nat) : dEv nL (bL b) = [⟨⟨#[107]⟩, zC, ck b, false, true⟩] := by
  have h1 : nL.toL = [] := rfl
  have h2 : (bL b).toL = [ck b] := rfl
  have h3 : nL.n + (bL b).n = 1 := rfl
  rw [dEv, h1, h2, h3]
  simp [mrgF, evL, lkL, hitL, getL, ck, VT.text]
theorem dSet_k (b : Nat) : dSet (dEv nL (bL b)) = [ck b] := by rw [dEv_b]; simp [dSet]
theorem dGone_k (b : Nat) : dGone (dEv nL (bL b)) = [] := by rw [dEv_b]; simp [dGone]
theorem diffE_k (b : Nat) : diffE 0 nL 3 (bL b) = 0 := by
  unfold diffE
  rw [if_neg (by rw [chk_nL 0 (by omega) (by omega)]; simp), chk_bL]
theorem ck_total (b : Nat) : (ck b).total ≤ 10000 := by simp [ck, VT.total, v7]
theorem chkD_k {b : Nat} {u : DT} (h : DT.Alike ⟨3, ltOf none 0 zC [ck b], ltOf none 0 (⟨#[]⟩ : ByteArray) []⟩ u) : chkD u = 0 := by
  have hn : u.num = 3 := h.num
  have hs : u.set.n = 1 := h.sn
  have hg : u.gone.n = 0 := h.gn
  have ha : VT.Alike (ck b) (u.set.item 0) := h.set 0 (by show 0 < 1; omega)
  have hc : chkState ⟨3, (bL b).p, (bL b).n, (bL b).c, (bL b).item⟩ = chkState ⟨u.num, u.set.p, u.set.n, u.set.c, u.set.item⟩ := chkState_alike ⟨hn, hs, fun j hj => by
    obtain rfl : j = 0 := by have : j < 1 := hj; omega
    exact ha⟩
  rw [chk_bL] at hc
  unfold chkD
  rw [← hc, hg]
  rfl
theorem toL_one {α : Type} {l : LT α} (h : l.n = 1) : l.toL = [l.item 0] := by simp [LT.toL, h]
theorem aSet_k {u : DT} (hs : u.set.n = 1) (hg : u.gone.n = 0) : aSet nL u = [u.set.item 0] := by
  have h1 : nL.toL = [] := rfl
  rw [aSet, h1, LT.toL_nil _ hg, toL_one hs]
  simp [woL, ovL, mrgF, evL, lkL, hitL, getL]
theorem aGone_k {u : DT} (hg : u.gone.n = 0) : aGone nL u = [] := by
  have h1 : nL.toL = [] := rfl
  rw [aGone, h1, LT.toL_nil _ hg]
  simp [woL, mrgF]
set_option maxHeartbeats 4000000 in
/-- plain is true -/
theorem plain_any (w : World) : Calls Try.prog 10 #[] w fun r w' => r = .returned (.bool true) ∧ Below w.heap.size w w' := by
  obtain ⟨W, hW⟩ : ∃ V, V = ((w.alloc (.cells #[.int .i64 1, .int .i64 7, .string ⟨#[]⟩, .slice none 0 0] 60)).alloc (.cells #[.string ⟨#[107]⟩, .slice (some ⟨w.heap.size, 0, none⟩) 1 1] 62)).alloc (.cells #[.int .i64 3, .slice (some ⟨w.heap.size + 1, 0, none⟩) 1 1] 24) := ⟨_, rfl⟩
  have hBel : Below w.heap.size w W := by rw [hW]; exact (((Below.refl _ _).alloc (Nat.le_refl _) _).alloc (by simp) _).alloc (by simp; omega) _
  have h0 : Box W w.heap.size #[.int .i64 1, .int .i64 7, .string ⟨#[]⟩, .slice none 0 0] 60 := by rw [hW]; exact ((Box.new w _ _).below ((Below.refl _ _).alloc (Nat.le_refl _) _)).below ((Below.refl _ _).alloc (Nat.le_refl _) _)
  have h1 : Box W (w.heap.size + 1) #[.string ⟨#[107]⟩, .slice (some ⟨w.heap.size, 0, none⟩) 1 1] 62 := by
    have h := Box.new (w.alloc (.cells #[.int .i64 1, .int .i64 7, .string ⟨#[]⟩, .slice none 0 0] 60)) #[.string ⟨#[107]⟩, .slice (some ⟨w.heap.size, 0, none⟩) 1 1] 62
    rw [show (w.alloc (.cells #[.int .i64 1, .int .i64 7, .string ⟨#[]⟩, .slice none 0 0] 60)).heap.size = w.heap.size + 1 by simp] at h
    rw [hW]; exact h.below ((Below.refl _ _).alloc (Nat.le_refl _) _)
  have h2 : Box W (w.heap.size + 2) #[.int .i64 3, .slice (some ⟨w.heap.size + 1, 0, none⟩) 1 1] 24 := by
    have h := Box.new ((w.alloc (.cells #[.int .i64 1, .int .i64 7, .string ⟨#[]⟩, .slice none 0 0] 60)).alloc (.cells #[.string ⟨#[107]⟩, .slice (some ⟨w.heap.size, 0, none⟩) 1 1] 62)) #[.int .i64 3, .slice (some ⟨w.heap.size + 1, 0, none⟩) 1 1] 24
    rw [show ((w.alloc (.cells #[.int .i64 1, .int .i64 7, .string ⟨#[]⟩, .slice none 0 0] 60)).alloc (.cells #[.string ⟨#[107]⟩, .slice (some ⟨w.heap.size, 0, none⟩) 1 1] 62)).heap.size = w.heap.size + 2 by simp] at h
    rw [hW]; exact h
  have hin := bL_in (S := fun k => k < W.heap.size) h0 h1 h0.lt h1.lt
  have HI := hid hin
  have HDf := hid (diff_any 0 nL 3 (bL w.heap.size) W (fun k => k < W.heap.size) (nL_in _ _) (by omega) (by omega) hin (by omega) (by omega) (fun k hk => hk) ⟨by show 0 ≤ _; omega, by show 1 ≤ _; omega⟩ (fun j hj => ck_total _) (by
    intro x hx
    rw [dEv_b] at hx
    obtain rfl := List.mem_singleton.1 hx
    simp [ByteArray.size]))
  rw [diffE_k, dSet_k, dGone_k] at HDf
  have HX := hid h2
  have HB := hid hBel
  have HW := hid hW
  have x0 := h2.cell 0
  have x1 := h2.cell 1
  have xl := h2.lt
  simp at x0 x1
  clear hW hBel h0 h1 h2 hin
  go_enter Try.func10, Try.ntmps10
  go_upto_region 2 with fail
  rw [← HW.out]
  go_wp2_with fail
  refine HDf.out.mono ?_
  rintro r w1 ⟨hb1, _, hu⟩
  obtain ⟨u, rfl, hal, hui⟩ := hu (by first | rfl | trivial)
  obtain ⟨V1, hV1⟩ : ∃ V, V = w1.alloc (.cells #[.int .i64 u.num, .slice u.set.p u.set.n u.set.c, .slice u.gone.p u.gone.n u.gone.c] 30) := ⟨_, rfl⟩
  have hB1 : Below w1.heap.size w1 V1 := by rw [hV1]; exact (Below.refl _ _).alloc (Nat.le_refl _) _
  have hBW : Below W.heap.size W V1 := hb1.trans (hB1.mono hb1.size)
  have HU := hid (hui.below hB1)
  have hxu : Box V1 w1.heap.size #[.int .i64 u.num, .slice u.set.p u.set.n u.set.c, .slice u.gone.p u.gone.n u.gone.c] 30 := by rw [hV1]; exact Box.new _ _ _
  have un : u.num = 3 := hal.num
  have us : u.set.n = 1 := hal.sn
  have ug : u.gone.n = 0 := hal.gn
  have ua : VT.Alike (ck w.heap.size) (u.set.item 0) := hal.set 0 (by show 0 < 1; omega)
  have HUA := hid (And.intro un (And.intro us (And.intro ug ua)))
  have HAp := hid (apply_any 8 nL u V1 (fun k => k < V1.heap.size) (nL_in _ _) (by omega) (by omega) (HU.out.mono fun b _ h => h) (fun k hk => hk) ⟨by show 0 ≤ _; omega, by omega, by omega⟩ ⟨fun j hj => absurd hj (by show ¬ j < 0; omega), fun j hj => by
    obtain rfl : j = 0 := by omega
    rw [ua.total]; exact ck_total _⟩)
  have ha0 : applyE 8 nL u = 0 := by
    unfold applyE
    rw [if_neg (by rw [chk_nL 8 (by omega) (by omega)]; simp), if_neg (by rw [chkD_k hal]; simp), aGone_k ug, aSet_k us ug]
    rfl
  rw [ha0, aSet_k us ug] at HAp
  have HX1 := hid (HX.out.below hBW)
  have HI1 := hid (HI.out.below hBW)
  have HB1 := hid (HB.out.trans (hBW.mono HB.out.size))
  have HXU := hid hxu
  have HV1 := hid hV1
  have HWs := hid HB.out.size
  clear x0 x1 xl hu hal hui hV1 hB1 hBW hxu un us ug ua ha0 hb1 HX HI HB HW HDf
  have y0 := HXU.out.cell 0
  have y1 := HXU.out.cell 1
  have y2 := HXU.out.cell 2
  have yl := HXU.out.lt
  simp at y0 y1 y2
  go_upto_region 3 with fail
  rw [← HV1.out]
  go_wp2_with fail
  refine HAp.out.mono ?_
  rintro r w2 ⟨hb2, _, hv⟩
  obtain ⟨v, rfl, vn, va, hvi⟩ := hv (by first | rfl | trivial)
  obtain ⟨V2, hV2⟩ : ∃ V, V = w2.alloc (.cells #[.int .i64 u.num, .slice v.p v.n v.c] 24) := ⟨_, rfl⟩
  have hB2 : Below w2.heap.size w2 V2 := by rw [hV2]; exact (Below.refl _ _).alloc (Nat.le_refl _) _
  have hBV : Below V1.heap.size V1 V2 := hb2.trans (hB2.mono hb2.size)
  have HVi := hid (hvi.below hB2)
  have hxv : Box V2 w2.heap.size #[.int .i64 u.num, .slice v.p v.n v.c] 24 := by rw [hV2]; exact Box.new _ _ _
  have vn1 : v.n = 1 := vn
  have HVA := hid (And.intro vn1 (show VT.Alike (u.set.item 0) (v.item 0) from va 0 (by omega)))
  have HX2 := hid (HX1.out.below hBV)
  have HI2 := hid (HI1.out.below hBV)
  have HB2 := hid (HB1.out.trans (hBV.mono HB1.out.size))
  have HXU2 := hid (HXU.out.below hBV)
  have HU2 := hid (HU.out.below hBV)
  have HXV := hid hxv
  have HV2 := hid hV2
  clear y0 y1 y2 yl hv vn va hvi hV2 hB2 hBV hxv vn1 hb2 HX1 HI1 HB1 HXU HU HV1 HAp
  have x0 := HX2.out.cell 0
  have x1 := HX2.out.cell 1
  have xl := HX2.out.lt
  simp at x0 x1
  have y0 := HXU2.out.cell 0
  have y1 := HXU2.out.cell 1
  have y2 := HXU2.out.cell 2
  have yl := HXU2.out.lt
  simp at y0 y1 y2
  have z0 := HXV.out.cell 0
  have z1 := HXV.out.cell 1
  have zl := HXV.out.lt
  simp at z0 z1
  go_upto_region 4 with fail
  rw [← HV2.out]
  have HQ : Hid (Calls Try.prog 17 #[.agg #[.int .i64 u.num, .slice u.set.p u.set.n u.set.c, .slice u.gone.p u.gone.n u.gone.c], .agg #[.int .i64 3, .slice (some ⟨w.heap.size + 1, 0, none⟩) 1 1, .slice none 0 0]] V2 fun e w' => YesNo (DAlk u ⟨3, bL w.heap.size, ⟨none, 0, 0, fun _ => ⟨#[]⟩⟩⟩) e V2 w') :=
    yDelta u ⟨3, bL w.heap.size, ⟨none, 0, 0, fun _ => ⟨#[]⟩⟩⟩ V2 _ _ HU2.out ⟨HI2.out, LT.In.none_ _ _ _ none 0 _ (Nat.zero_le _) (fun _ => rfl), by show (-9223372036854775808 : Int) ≤ 3; omega, by show (3 : Int) ≤ 9223372036854775807; omega⟩
  go_wp2_with fail
  refine HQ.out.mono ?_
  rintro r w3 ⟨q, rfl, hq, hb3⟩
  obtain rfl : q = true := hq.2 ⟨HUA.out.1, ⟨HUA.out.2.1.symm, fun j hj => by
    obtain rfl : j = 0 := by have := HUA.out.2.1; omega
    exact (HUA.out.2.2.2.symm (HU2.out.set.each 0 hj)).cell⟩, HUA.out.2.2.1.symm, fun j hj => absurd hj (by have := HUA.out.2.2.1; omega)⟩
  have x0' := (World.cell?_of_block (a := ⟨w.heap.size + 2, 0, none⟩) (hb3.block _ xl)).trans x0
  have x1' := (World.cell?_of_block (a := ⟨w.heap.size + 2, 1, none⟩) (hb3.block _ xl)).trans x1
  have z0' := (World.cell?_of_block (a := ⟨w2.heap.size, 0, none⟩) (hb3.block _ zl)).trans z0
  have z1' := (World.cell?_of_block (a := ⟨w2.heap.size, 1, none⟩) (hb3.block _ zl)).trans z1
  have xl' := Nat.lt_of_lt_of_le xl hb3.size
  have zl' := Nat.lt_of_lt_of_le zl hb3.size
  have HQ2 : Hid (Calls Try.prog 15 #[.agg #[.int .i64 u.num, .slice v.p v.n v.c], .agg #[.int .i64 3, .slice (some ⟨w.heap.size + 1, 0, none⟩) 1 1]] w3 fun e w' => YesNo (u.num = 3 ∧ LsAlk v (bL w.heap.size)) e w3 w') :=
    yStat u.num 3 v (bL w.heap.size) w3 _ _ (HVi.out.below hb3) (HI2.out.below hb3)
  have HB3 := hid (HB2.out.trans (hb3.mono HB2.out.size))
  clear x0 x1 z0 z1 y0 y1 y2 hq hb3 xl zl yl
  go_wp2_with fail
  refine HQ2.out.mono ?_
  rintro r w4 ⟨q, rfl, hq, hb4⟩
  obtain rfl : q = true := hq.2 ⟨HUA.out.1, HVA.out.1.symm, fun j hj => by
    obtain rfl : j = 0 := by have := HVA.out.1; omega
    exact ((HUA.out.2.2.2.trans HVA.out.2).symm (HVi.out.each 0 hj)).cell⟩
  have HB4 := hid (HB3.out.trans (hb4.mono HB3.out.size))
  clear hq hb4
  go_wp2
  exact bodyPost_ret (v := .bool true) (by simp [results, Try.results10, go_sem]) rfl ⟨rfl, HB4.out⟩
end Go.Proofs.Ytckopbkhpbhljaa

namespace Go.Proofs.Ytckopbkhpbhljaa
open Go.RowKit
set_option maxRecDepth 8000

/-- three deltas in a row -/
def threeD (b : Nat) (d e f : DT) : LT DT := ⟨some ⟨b, 0, none⟩, 3, 3, fun j => if j = 0 then d else if j = 1 then e else f⟩
theorem threeD_in {W : World} {b : Nat} {d e f : DT} {S : Nat → Prop} (h : Box W b #[.int .i64 d.num, .slice d.set.p d.set.n d.set.c, .slice d.gone.p d.gone.n d.gone.c, .int .i64 e.num, .slice e.set.p e.set.n e.set.c, .slice e.gone.p e.gone.n e.gone.c, .int .i64 f.num, .slice f.set.p f.set.n f.set.c, .slice f.gone.p f.gone.n f.gone.c] 30) (hb : S b) (hd : DT.In W S d) (he : DT.In W S e) (hf : DT.In W S f) : LT.In elD W S (threeD b d e f) := by
  refine ⟨fun _ => ⟨b, 0, rfl, hb, h.lt, fun j hj r u hu => ?_⟩, fun j hj => ?_, by show 3 ≤ 3; omega, by show 3 ≤ _; omega, by show 3 ≤ maxLen; simp [maxLen], fun h => by cases h⟩
  · have hj3 : j < 3 := hj
    match j, hj3, r, hu with
    | 0, _, 0, hu => obtain rfl : _ = u := Option.some.inj hu; exact h.cell 0
    | 0, _, 1, hu => obtain rfl : _ = u := Option.some.inj hu; exact h.cell 1
    | 0, _, 2, hu => obtain rfl : _ = u := Option.some.inj hu; exact h.cell 2
    | 1, _, 0, hu => obtain rfl : _ = u := Option.some.inj hu; exact h.cell 3
    | 1, _, 1, hu => obtain rfl : _ = u := Option.some.inj hu; exact h.cell 4
    | 1, _, 2, hu => obtain rfl : _ = u := Option.some.inj hu; exact h.cell 5
    | 2, _, 0, hu => obtain rfl : _ = u := Option.some.inj hu; exact h.cell 6
    | 2, _, 1, hu => obtain rfl : _ = u := Option.some.inj hu; exact h.cell 7
    | 2, _, 2, hu => obtain rfl : _ = u := Option.some.inj hu; exact h.cell 8
  · have hj3 : j < 3 := hj
    match j, hj3 with
    | 0, _ => exact hd
    | 1, _ => exact he
    | 2, _ => exact hf
set_option maxHeartbeats 4000000 in
theorem deltaAssoc_walk (d e f : DT) (w : World) (hd : DT.In w (fun b => b < w.heap.size) d) (he : DT.In w (fun b => b < w.heap.size) e) (hf : DT.In w (fun b => b < w.heap.size) f) :
    Calls Try.prog 5 #[.agg #[.int .i64 d.num, .slice d.set.p d.set.n d.set.c, .slice d.gone.p d.gone.n d.gone.c], .agg #[.int .i64 e.num, .slice e.set.p e.set.n e.set.c, .slice e.gone.p e.gone.n e.gone.c], .agg #[.int .i64 f.num, .slice f.set.p f.set.n f.set.c, .slice f.gone.p f.gone.n f.gone.c]] w fun r w' => r = .returned (.bool true) ∧ Below w.heap.size w w' := by
  obtain ⟨W, hW⟩ : ∃ V, V = ((w.alloc (.cells #[.int .i64 d.num, .slice d.set.p d.set.n d.set.c, .slice d.gone.p d.gone.n d.gone.c] 30)).alloc (.cells #[.int .i64 e.num, .slice e.set.p e.set.n e.set.c, .slice e.gone.p e.gone.n e.gone.c] 30)).alloc (.cells #[.int .i64 f.num, .slice f.set.p f.set.n f.set.c, .slice f.gone.p f.gone.n f.gone.c] 30) := ⟨_, rfl⟩
  have HT : Hid (Tri w W d e f) := by rw [hW]; exact Tri.start w d e f
  obtain ⟨V, hV⟩ : ∃ V, V = W.alloc (.cells #[.int .i64 d.num, .slice d.set.p d.set.n d.set.c, .slice d.gone.p d.gone.n d.gone.c, .int .i64 e.num, .slice e.set.p e.set.n e.set.c, .slice e.gone.p e.gone.n e.gone.c, .int .i64 f.num, .slice f.set.p f.set.n f.set.c, .slice f.gone.p f.gone.n f.gone.c] 30) := ⟨_, rfl⟩
  have hB : Below W.heap.size W V := by rw [hV]; exact (Below.refl _ _).alloc (Nat.le_refl _) _
  have hx : Box V W.heap.size #[.int .i64 d.num, .slice d.set.p d.set.n d.set.c, .slice d.gone.p d.gone.n d.gone.c, .int .i64 e.num, .slice e.set.p e.set.n e.set.c, .slice e.gone.p e.gone.n e.gone.c, .int .i64 f.num, .slice f.set.p f.set.n f.set.c, .slice f.gone.p f.gone.n f.gone.c] 30 := by rw [hV]; exact Box.new _ _ _
  have HT1 := hid (HT.out.below hB)
  have up : ∀ {u : DT}, DT.In w (fun b => b < w.heap.size) u → DT.In V (fun b => b < V.heap.size) u := fun h => (h.below HT1.out.bel).mono fun b _ h => h
  have HSz := hid (szDeltas_any (threeD W.heap.size d e f) V (fun b => b < V.heap.size) (threeD_in hx hx.lt (up hd) (up he) (up hf)) (fun b h => h))
  have HD := hid hd
  have HE := hid he
  have HF := hid hf
  have HW := hid hW
  have HV := hid hV
  have x0 := HT.out.b0.cell 0
  have x1 := HT.out.b0.cell 1
  have x2 := HT.out.b0.cell 2
  have xl := HT.out.b0.lt
  simp at x0 x1 x2
  have y0 := HT.out.b1.cell 0
  have y1 := HT.out.b1.cell 1
  have y2 := HT.out.b1.cell 2
  have yl := HT.out.b1.lt
  simp at y0 y1 y2
  have z0 := HT.out.b2.cell 0
  have z1 := HT.out.b2.cell 1
  have z2 := HT.out.b2.cell 2
  have zl := HT.out.b2.lt
  simp at z0 z1 z2
  clear hd he hf hW hV hB hx up
  go_enter Try.func5, Try.ntmps5
  go_upto_region 1 with fail
  rw [← HW.out]
  go_wp2_with fail
  rw [← HV.out]
  refine HSz.out.mono ?_
  rintro r w1 ⟨q, rfl, hq, hb1⟩
  have HT2 := hid (HT1.out.below hb1)
  have HQ := hid hq
  clear x0 x1 x2 y0 y1 y2 z0 z1 z2 xl yl zl hq hb1 HSz
  cases q with
  | false =>
    go_wp2
    exact bodyPost_ret (v := .bool true) (by simp [results, Try.results5, go_sem]) rfl ⟨rfl, HT2.out.bel⟩
  | true =>
    have HZ : Hid (DSz d ∧ DSz e ∧ DSz f) := ⟨HQ.out (by first | rfl | trivial) 0 (by show 0 < 3; omega), HQ.out (by first | rfl | trivial) 1 (by show 1 < 3; omega), HQ.out (by first | rfl | trivial) 2 (by show 2 < 3; omega)⟩
    clear HQ
    go_wp2_with fail
    refine (plain_any w1).mono ?_
    rintro r w2 ⟨rfl, hb2⟩
    have HT3 := hid (HT2.out.below hb2)
    clear hb2
    have x0 := HT3.out.b0.cell 0
    have x1 := HT3.out.b0.cell 1
    have x2 := HT3.out.b0.cell 2
    have xl := HT3.out.b0.lt
    simp at x0 x1 x2
    have y0 := HT3.out.b1.cell 0
    have y1 := HT3.out.b1.cell 1
    have y2 := HT3.out.b1.cell 2
    have yl := HT3.out.b1.lt
    simp at y0 y1 y2
    have z0 := HT3.out.b2.cell 0
    have z1 := HT3.out.b2.cell 1
    have z2 := HT3.out.b2.cell 2
    have zl := HT3.out.b2.lt
    simp at z0 z1 z2
    have HC := hid (assoc_any d e f w2 (fun b => b < w2.heap.size) ((HD.out.below HT3.out.bel).mono fun b _ h => h) ((HE.out.below HT3.out.bel).mono fun b _ h => h) ((HF.out.below HT3.out.bel).mono fun b _ h => h) (fun k h => h) HZ.out.1 HZ.out.2.1 HZ.out.2.2)
    go_wp2_with fail
    refine HC.out.mono ?_
    rintro r w3 ⟨rfl, hb3⟩
    have HB := hid (HT3.out.bel.trans (hb3.mono HT3.out.bel.size))
    clear hb3
    go_wp2
    exact bodyPost_ret (v := .bool true) (by simp [results, Try.results5, go_sem]) rfl ⟨rfl, HB.out⟩
end Go.Proofs.Ytckopbkhpbhljaa
