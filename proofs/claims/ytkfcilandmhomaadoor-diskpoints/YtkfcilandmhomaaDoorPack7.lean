import Derived.Test.YtkfcilandmhomaaDoorPack6
import Derived.Test.YtkfcilandmhomaaDoorPack3
import Derived.Maps.RangeWalk
import Derived.RangeFuncCalls
import Derived.RangeFuncNested
import Derived.RangeFuncBound
import Derived.RangeFuncBox
import Derived.TacticsInMore
import Derived.Deep.DeepCutAuto
import Derived.Test.YtkfcilandmhomaaDoorPack1
import Derived.OwnWalkIn
import Derived.Shelf.Abstract
import Derived.Shelf.RegionOpen
import Derived.WalkKit
import Derived.LoopNIn
import Derived.LoopIn
import Derived.Laws.EntriesVeiled
import Derived.Lib.Bytealg
import Derived.Shelf.SlSortCmp.WholeK
namespace Go.Proofs.YtkfcilandmhomaaDoor
open Go.RowKit
open Go.ChangeMaps (setBlock)
set_option maxRecDepth 8000
/-- maps.Keys: a function over one new block that holds the map -/
theorem mkeys_any (b : Nat) (w : World) : Calls Tryd.prog 46 #[.map (some b)] w fun e w' => e = .returned (.func (.func 52) #[] #[.pointer (some ⟨w.heap.size, 0, none⟩)]) ∧ w' = w.alloc (.cells #[.map (some b)] 59) := by
  go_enter Tryd.func46, Tryd.ntmps46
  go_wp2
  exact bodyPost_ret (v := .func (.func 52) #[] #[.pointer (some ⟨w.heap.size, 0, none⟩)]) (by simp [results, Tryd.results46, go_sem]) rfl ⟨rfl, rfl⟩
set_option maxHeartbeats 4000000 in
/-- what it hands out, ranged over: the names of all files, in some order -/
theorem keys_seq (w : World) (bm b b0 : Nat) (E : List (ByteArray × Value)) (hbx : Box w bm #[.map (some b)] 59) (hm : MpI w b E) (hb0 : b ≠ b0) :
    SeqM Tryd.prog 52 #[.pointer (some ⟨bm, 0, none⟩)] (fun s => #[labV s]) (fun pre => pre.Nodup ∧ ∀ s ∈ pre, s ∈ E.map (·.1)) (fun XS => XS.Perm (E.map (·.1))) b0 w := by
  intro l J W hBW hJ hY h0
  refine callsIn_wide.2 ?_
  have HM := hid (hm.kept (hBW.block b hm.lt))
  have hx := hbx.below hBW
  have x0 := hx.cell 0
  simp at x0
  have hsz := hBW.size
  have hbl := hm.lt
  clear hbx hx
  show Calls Tryd.prog 52 #[.func (.yield l) #[] #[], .pointer (some ⟨bm, 0, none⟩)] W _
  go_enter Tryd.func52, Tryd.ntmps52
  go_wp2_with (at_range; refine wpList_rng rfl _ rfl rfl HM.out ?_; intro w0 hrg0 hb0')
  have HJ0 : Hid (J [] w0) := hJ.grow h0 hb0'
  have HS0 : Hid (W.heap.size < w0.heap.size) := by obtain ⟨o, ho, _⟩ := hrg0.itr; exact (Array.getElem?_eq_some_iff.1 ho).1
  have HR0 := hid hrg0
  clear hrg0 hb0' h0
  go_loopw [6] (fun _ wr => ∃ pre : List ByteArray, Rg wr b W.heap.size E pre ∧ J pre wr ∧ W.heap.size < wr.heap.size) (fun _ wr => wr.rangeLeft b W.heap.size)
  case atStart => exact ⟨[], HR0.out, HJ0.out, HS0.out⟩
  case round =>
    obtain ⟨pre, hrg, hj, hsw⟩ := hrel
    have HN := hid hrg
    have HJ := hid hj
    clear hrg hj
    go_wp2_with (at_next; refine wpList_nxt rfl _ rfl rfl HN.out ?_ ?_)
    · intro hp
      go_wp2
      go_end0
      exact ⟨⟨_, rfl⟩, pre, hp, HJ.out⟩
    · intro s v w1 hsv hsp hr1 hb1 hs1 hl1 hen
      have hbr : b ≠ W.heap.size := by omega
      have hj1 : J pre w1 := hJ pre wr w1 _ HJ.out hb1 fun k _ e => by
        obtain ⟨o, ho, hk⟩ := HN.out.itr
        subst e
        exact ⟨hsz, o, ho, hk⟩
      have HL : Hid (w1.rangeLeft b W.heap.size < wr.rangeLeft b W.heap.size) := hl1
      have HR1 := hid hr1
      have hsE : s ∈ E.map (·.1) := List.mem_map.2 ⟨(s, v), hsv, rfl⟩
      have HP : Hid ((pre ++ [s]).Nodup ∧ ∀ x ∈ pre ++ [s], x ∈ E.map (·.1)) := by
        obtain ⟨_, _, _, _, _, _, _, _, _, _, _, _, h8, h9⟩ := hr1
        exact ⟨h8, h9⟩
      obtain ⟨V, hV⟩ : ∃ V, V = w1.alloc (.cells (labC s).toArray 69) := ⟨_, rfl⟩
      have hBV : Below w1.heap.size w1 V := by rw [hV]; exact (Below.refl _ _).alloc (Nat.le_refl _) _
      have HX : Hid (Box V w1.heap.size (labC s).toArray 69) := by rw [hV]; exact Box.new _ _ _
      have HV := hid hV
      have HBV := hid hBV
      have hjV : J pre V := hJ.grow hj1 hBV
      clear hV hBV hj1 hr1 hl1 hsE hsv
      obtain ⟨fn, tmps, assign, body, hy, hR⟩ := hY pre s V hjV HP.out
      have HYR := hid (And.intro hy hR)
      clear hy hR hjV
      have hs1' : w1.heap.size = wr.heap.size := hs1
      simp only [labV, labC] at hen ⊢
      go_upto_region 3 with fail
      have hv := HV.out
      simp only [labC] at hv
      rw [← hv]
      clear hv
      have hX := HX.out
      simp only [labC, hs1'] at hX
      have q0 := hX.cell 0
      have q1 := hX.cell 1
      have q2 := hX.cell 2
      have q3 := hX.cell 3
      have q4 := hX.cell 4
      have q5 := hX.cell 5
      have q6 := hX.cell 6
      have q7 := hX.cell 7
      have q8 := hX.cell 8
      have q9 := hX.cell 9
      have q10 := hX.cell 10
      have q11 := hX.cell 11
      have hxl := hX.lt
      simp at q0 q1 q2 q3 q4 q5 q6 q7 q8 q9 q10 q11
      have hy := HYR.out.1
      have hR := HYR.out.2
      simp only [labV, labC] at hy
      clear hX
      refine (wpIn_wide (n := 0)).1 ?_
      gi_wp2
      refine ⟨rfl, hR.mono ?_⟩
      rintro e W3 ⟨rfl, hj3, hk3⟩
      have HJ3 := hid hj3
      have HK3 := hid hk3
      clear hj3 hk3 hR hy HYR
      have HR3 : Hid (Rg W3 b W.heap.size E (pre ++ [s]) ∧ W3.rangeLeft b W.heap.size = w1.rangeLeft b W.heap.size ∧ W.heap.size < W3.heap.size) := by
        have hr1 : W.heap.size < w1.heap.size := by rw [hs1]; exact hsw
        have hb1' : b < w1.heap.size := by omega
        have e1 := HBV.out.block b hb1'
        have e2 := HBV.out.block W.heap.size hr1
        have hrV := HR1.out.kept e1 e2
        obtain ⟨o, ho, hk⟩ := hrV.itr
        have e3 := HK3.out.low b hbl (Nat.lt_of_lt_of_le hb1' HBV.out.size) hb0
        have e4 := (HK3.out.itr W.heap.size o hsz ho hk).trans ho.symm
        exact ⟨hrV.kept e3 e4, (rangeLeft_kept e3 e4).trans (rangeLeft_kept e1 e2), Nat.lt_of_lt_of_le (Nat.lt_of_lt_of_le hr1 HBV.out.size) HK3.out.size⟩
      clear HK3
      gi_wp2
      go_wp2_with fail
      go_roundw
      case rel => exact ⟨pre ++ [s], HR3.out.1, HJ3.out, HR3.out.2.2⟩
      case measure =>
        rw [HR3.out.2.1]
        exact HL.out
end Go.Proofs.YtkfcilandmhomaaDoor

namespace Go.Proofs.YtkfcilandmhomaaDoor
open Go.RowKit
open Go.ChangeMaps (setBlock)
set_option maxRecDepth 8000
attribute [local go_sem] Oper.semAt_some
theorem own_low {base base' : Nat} {e : TypeId} {size n : Nat} {w : World} {v : Value} {xs : List Value} (h : w.ownsRow base e size v n xs) (hb : base' ≤ base) : w.ownsRow base' e size v n xs := by
  obtain ⟨h1, h2 | ⟨g, cap, cur, h3, h4, h5⟩⟩ := h
  · exact ⟨h1, .inl h2⟩
  · exact ⟨h1, .inr ⟨g, cap, cur, h3, Nat.le_trans hb h4, h5⟩⟩
theorem own_tag {W : World} {base : Nat} {e : TypeId} {size : Nat} {v : Value} {n : Nat} {xs : List Value} (h : W.ownsRow base e size v n xs) {g : Nat} (hg : v.ownBlock = some g) : ∃ cur, W.heap[g]? = some (.cells cur e (0, 0)) ∧ base ≤ g := by
  obtain ⟨_, ⟨hv, _⟩ | ⟨b, cap, cur, hv, hbg, hh, _⟩⟩ := h
  · rw [hv] at hg; simp [Value.ownBlock] at hg
  · rw [hv] at hg
    simp only [Value.ownBlock, Option.some.injEq] at hg
    subst hg
    exact ⟨cur, hh, hbg⟩
theorem own_non {W : World} {base : Nat} {e : TypeId} {size : Nat} {v : Value} {n : Nat} {xs : List Value} (h : W.ownsRow base e size v n xs) {g : Nat} (hg : v.ownBlock = some g) {o : Obj} (ho : W.heap[g]? = some o) : ¬ okN o := by
  obtain ⟨cur, h1, _⟩ := own_tag h hg
  rw [h1] at ho
  cases ho
  simp [okN, Obj.isCells]
theorem nd_len {α : Type} [DecidableEq α] : ∀ (l1 l2 : List α), l1.Nodup → (∀ x ∈ l1, x ∈ l2) → l1.length ≤ l2.length
  | [], _, _, _ => Nat.zero_le _
  | a :: l, l2, hn, hs => by
    have ha := hs a (by simp)
    have h1 := nd_len l (l2.erase a) (List.nodup_cons.1 hn).2 fun x hx => (List.mem_erase_of_ne (fun e => (List.nodup_cons.1 hn).1 (by rw [← e]; exact hx))).2 (hs x (List.mem_cons_of_mem _ hx))
    rw [List.length_erase_of_mem ha] at h1
    have := List.length_pos_of_mem ha
    simp only [List.length_cons]
    omega
/-- labels in a row that grows in a variable -/
structure RowL (w : World) (B c : Nat) (W : World) (xs : List ByteArray) : Prop where
  ex : ∃ v, Box W c #[v] 79 ∧ W.ownsRow B 69 12 v xs.length (xs.flatMap labC)
  bel : Below w.heap.size w W
  sz : B ≤ W.heap.size
theorem RowL.ab {w : World} {B c : Nat} (hb : c < B) (hw : w.heap.size ≤ B) : Ab B okN (fun xs W => RowL w B c W xs) := by
  rintro s W W' X ⟨⟨v, hbx, hown⟩, hbel, hsz⟩ hbt hx
  refine ⟨⟨v, hbx.but hbt fun e => ?_, ownsRow_keep hown fun k hk hl => hbt.block k hl fun e => ?_⟩, hbel.trans (hbt.below hbel.size fun k hk e => ?_), Nat.le_trans hsz hbt.size⟩
  · have := (hx c hbx.lt e).1; omega
  · obtain ⟨_, o, h1, h2⟩ := hx k hl e
    exact own_non hown hk h1 h2
  · have := (hx k (by have := hbel.size; omega) e).1; omega
theorem rowL_box {W W2 : World} {B b0 : Nat} {t0 : TypeId} {v : Value} {e : TypeId} {size n : Nat} {xs : List Value} {o : Obj} (hbx : Box W b0 #[v] t0) (hown : W.ownsRow B e size v n xs) (hb : b0 < B) (hg : (W.alloc o).grownBy W2 v.ownBlock) : Box W2 b0 #[v] t0 :=
  (hbx.kept (Below.heap_alloc _ _ _ hbx.lt)).kept (hg.block b0 (by simp; have := hbx.lt; omega) (fun e => by obtain ⟨_, _, h⟩ := own_tag hown e.symm; omega))
/-- one item more -/
theorem RowL.push {w : World} {B b0 : Nat} {W W2 : World} {xs : List ByteArray} {v v' : Value} {x : ByteArray} {o : Obj} (hbx : Box W b0 #[v] 79) (hown : W.ownsRow B 69 12 v xs.length (xs.flatMap labC)) (hbel : Below w.heap.size w W) (hsz : B ≤ W.heap.size)
    (hb : b0 < B) (hw : w.heap.size ≤ b0) (ho : W2.ownsRow B 69 12 v' (xs.length + 1) (xs.flatMap labC ++ labC x)) (hg : (W.alloc o).grownBy W2 v.ownBlock) :
    KeepB B b0 W (W2.setCell ⟨b0, 0, none⟩ v') ∧ RowL w B b0 (W2.setCell ⟨b0, 0, none⟩ v') (xs ++ [x]) := by
  have hs2 := hg.size
  simp only [World.size_alloc] at hs2
  have hkeep : ∀ k, k < W.heap.size → k ≠ b0 → v.ownBlock ≠ some k → (W2.setCell ⟨b0, 0, none⟩ v').heap[k]? = W.heap[k]? := fun k hk hn hv =>
    ((Below.heap_setCell _ _ _ _ hn).trans (hg.block k (by simp; omega) (fun e => hv e.symm))).trans (Below.heap_alloc _ _ _ hk)
  have hlt : ∀ (k : Nat) (o : Obj), W.heap[k]? = some o → k < W.heap.size := fun k o h => (Array.getElem?_eq_some_iff.1 h).1
  have hvb : v.ownBlock ≠ some b0 := fun e => by obtain ⟨_, _, h⟩ := own_tag hown e; omega
  have hvb' : v'.ownBlock ≠ some b0 := fun e => by obtain ⟨_, _, h⟩ := own_tag ho e; omega
  have hbx2 : Box W2 b0 #[v] 79 := rowL_box hbx hown hb hg
  have hbt : But (fun k => k = b0) W2 (W2.setCell ⟨b0, 0, none⟩ v') := (But.one W2 b0).setAt 0 v'
  have hbel2 : Below w.heap.size w W2 := (hbel.trans (((Below.refl W.heap.size W).alloc (Nat.le_refl _) o).mono hbel.size)).grown hg (by have := hbel.size; simp; omega) (fun k hk => by obtain ⟨_, _, h⟩ := own_tag hown hk; omega)
  have hw2 := hg.os
  have hw3 := hg.tape
  have hw4 := hg.output
  refine ⟨⟨⟨by simp [World.setCell]; omega, fun k hk hl hn => hkeep k hl hn fun e => ?_, fun k o' hk hc hi => (hkeep k (hlt k _ hc) (by omega) fun e => ?_).trans hc, hg.os, hg.tape, hg.output⟩, fun k o' hk ho' hc => (hkeep k (hlt k _ ho') (by omega) fun e => ?_).trans ho'⟩, ⟨v', ?_, ?_⟩, ?_, by simp [World.setCell]; omega⟩
  · obtain ⟨_, _, h⟩ := own_tag hown e; omega
  · exact own_non hown e hc hi.non
  · exact own_non hown e ho' hc
  · have h := hbx2.set 0 v'
    simpa using h
  · rw [List.length_append, List.flatMap_append]
    simp only [List.length_singleton, List.flatMap_cons, List.flatMap_nil, List.append_nil]
    exact ownsRow_keep ho fun k hk _ => Below.heap_setCell _ _ _ _ (fun e => hvb' (by have e' : k = b0 := e; rw [← e']; exact hk))
  · exact hbel2.setCell (p := ⟨b0, 0, none⟩) hw v'
theorem kindL : ∃ i, Kind 79 69 i (.agg #[.int .u8 0, .int .u8 0, .int .u8 0, .int .u8 0, .int .u8 0, .int .u8 0, .int .u8 0, .int .u8 0, .int .u8 0, .int .u8 0, .int .u8 0, .int .u8 0]) 12 12 := by
  obtain ⟨i0, hi, hz0, hz1, hz2⟩ := info_parts (show (Tryd.prog.info? 69).map (fun i => (i.zero, i.size, i.bytes)) = some (some (.agg #[.int .u8 0, .int .u8 0, .int .u8 0, .int .u8 0, .int .u8 0, .int .u8 0, .int .u8 0, .int .u8 0, .int .u8 0, .int .u8 0, .int .u8 0, .int .u8 0]), 12, 12) by kernel_rfl)
  exact ⟨i0, Tryd.underlying79, hi, hz0, hz1, hz2, rfl, by decide⟩
theorem labC_one (s : ByteArray) : ∀ u ∈ labC s, u.oneCell' = true := by
  intro u hu
  simp only [labC, List.mem_cons, List.not_mem_nil, or_false] at hu
  rcases hu with rfl | rfl | rfl | rfl | rfl | rfl | rfl | rfl | rfl | rfl | rfl | rfl <;> rfl
set_option maxHeartbeats 4000000 in
theorem appseq_any (w : World) (bm b : Nat) (E : List (ByteArray × Value)) (hbx : Box w bm #[.map (some b)] 59) (hm : MpI w b E) (hle : E.length ≤ 1000) :
    Calls Tryd.prog 58 #[.slice none 0 0, .func (.func 52) #[] #[.pointer (some ⟨bm, 0, none⟩)]] w fun e w' => ∃ (p : Option Addr) (c : Nat) (XS : List ByteArray), e = .returned (.slice p XS.length c) ∧ XS.Perm (E.map (·.1)) ∧ w'.ownsRow w.heap.size 69 12 (.slice p XS.length c) XS.length (XS.flatMap labC) ∧ Below w.heap.size w w' := by
  obtain ⟨w1, hw1⟩ : ∃ V, V = w.alloc (.cells #[.slice none 0 0] 79) := ⟨_, rfl⟩
  have hB1 : Below w.heap.size w w1 := by rw [hw1]; exact (Below.refl _ _).alloc (Nat.le_refl _) _
  have hX1 : Box w1 w.heap.size #[.slice none 0 0] 79 := by rw [hw1]; exact Box.new _ _ _
  have HW1 := hid hw1
  have hs1 : w1.heap.size = w.heap.size + 1 := by rw [hw1]; simp
  have HSeq := hid (keys_seq w1 bm b w.heap.size E (hbx.below hB1) (hm.kept (hB1.block b hm.lt)) (by have := hm.lt; omega))
  have HRow : Hid (RowL w w1.heap.size w.heap.size w1 []) := ⟨⟨_, hX1, rfl, .inl ⟨rfl, rfl⟩⟩, hB1, Nat.le_refl _⟩
  have HAb := hid (RowL.ab (w := w) (B := w1.heap.size) (c := w.heap.size) (by omega) (by omega))
  obtain ⟨i0, Kd⟩ := kindL
  clear hw1 hX1 hbx hm
  refine (callsIn_wide (n := 0)).1 ?_
  refine callsIn_of_wp_marks Tryd.func58 rfl trivial ?_ rfl
  simp only [Tryd.ntmps58, List.size_toArray, List.length_cons, List.length_nil, Nat.reduceAdd, Nat.reduceSub, Array.replicate_succ, Array.replicate_zero, List.push_toArray, List.append_toArray, List.nil_append, List.cons_append]
  refine wpIn_wide.2 ?_
  go_upto_region 1 with fail
  rw [← HW1.out]
  go_wp2_with fail
  refine (wpIn_wide (n := 0)).1 ?_
  refine range_law (gf := 52) (lb := #[.pointer (some ⟨bm, 0, none⟩)]) rfl (enters_of Tryd.func52 (by kernel_rfl) rfl) (encs := fun s => #[labV s]) (fun _ => rfl) (b0 := w.heap.size) HSeq.out
    (fun pre W' => RowL w w1.heap.size w.heap.size W' pre) HAb.out HRow.out
    (fun x a' W' => ∃ q, Box W' q #[.int .u8 (bat x 0), .int .u8 (bat x 1), .int .u8 (bat x 2), .int .u8 (bat x 3), .int .u8 (bat x 4), .int .u8 (bat x 5), .int .u8 (bat x 6), .int .u8 (bat x 7), .int .u8 (bat x 8), .int .u8 (bat x 9), .int .u8 (bat x 10), .int .u8 (bat x 11)] 69 ∧ a' = { tmps := #[.slice none 0 0, .func (.func 52) #[] #[.pointer (some ⟨bm, 0, none⟩)], .pointer (some ⟨w.heap.size, 0, none⟩), undef, .slice none 0 0, .pointer (some ⟨q, 0, none⟩), .func (.func 52) #[] #[.pointer (some ⟨bm, 0, none⟩)], .agg #[.int .u8 (bat x 0), .int .u8 (bat x 1), .int .u8 (bat x 2), .int .u8 (bat x 3), .int .u8 (bat x 4), .int .u8 (bat x 5), .int .u8 (bat x 6), .int .u8 (bat x 7), .int .u8 (bat x 8), .int .u8 (bat x 9), .int .u8 (bat x 10), .int .u8 (bat x 11)], undef, undef, undef, undef, undef], defers := [] })
    ?abx ?assign ?body ?done
  case abx =>
    rintro ⟨x, a'⟩ W' W'' X ⟨q, hq, he⟩ hbt hx
    exact ⟨q, hq.but hbt fun e => by
      obtain ⟨_, o, h1, h2⟩ := hx q hq.lt e
      rw [show W'.heap[q]? = _ from hq] at h1
      cases h1
      simp [okN, Obj.isCells] at h2, he⟩
  case assign =>
    intro l pre x W' K hI hK
    have hnb : Below W'.heap.size W' (W'.alloc (.cells #[.int .u8 (bat x 0), .int .u8 (bat x 1), .int .u8 (bat x 2), .int .u8 (bat x 3), .int .u8 (bat x 4), .int .u8 (bat x 5), .int .u8 (bat x 6), .int .u8 (bat x 7), .int .u8 (bat x 8), .int .u8 (bat x 9), .int .u8 (bat x 10), .int .u8 (bat x 11)] 69)) := (Below.refl _ _).alloc (Nat.le_refl _) _
    have HK := hid hK
    have HI := hid hI
    clear hK hI
    simp only [labV, labC]
    gi_wp2
    exact HK.out _ _ (KeepB.below hnb) (HAb.out.grow HI.out hnb) ⟨W'.heap.size, Box.new _ _ _, rfl⟩
  case body =>
    rintro l pre x a' W' ⟨⟨v, hbx, hown⟩, hbel, hsz⟩ ⟨q, hq, rfl⟩ hpre
    have hlen : pre.length < 1000000 := by
      have h1 : (pre ++ [x]).length ≤ (E.map (·.1)).length := nd_len _ _ hpre.1 hpre.2
      simp only [List.length_append, List.length_singleton, List.length_map] at h1
      omega
    have v0 := hbx.cell 0
    have vf := hbx.frozen 0
    have vl := hbx.lt
    simp at v0
    have q0 := hq.cell 0
    have q1 := hq.cell 1
    have q2 := hq.cell 2
    have q3 := hq.cell 3
    have q4 := hq.cell 4
    have q5 := hq.cell 5
    have q6 := hq.cell 6
    have q7 := hq.cell 7
    have q8 := hq.cell 8
    have q9 := hq.cell 9
    have q10 := hq.cell 10
    have q11 := hq.cell 11
    have ql := hq.lt
    simp at q0 q1 q2 q3 q4 q5 q6 q7 q8 q9 q10 q11
    have HBX := hid hbx
    have HBel := hid hbel
    clear hbx hq hbel hpre
    have hnews : ∀ j u', (labC x)[j]? = some u' → (W'.alloc (.cells #[.int .u8 (bat x 0), .int .u8 (bat x 1), .int .u8 (bat x 2), .int .u8 (bat x 3), .int .u8 (bat x 4), .int .u8 (bat x 5), .int .u8 (bat x 6), .int .u8 (bat x 7), .int .u8 (bat x 8), .int .u8 (bat x 9), .int .u8 (bat x 10), .int .u8 (bat x 11)] 69)).cell? ((⟨W'.heap.size, 0, none⟩ : Addr).add j) = some u' := fun j u' hu => by
      rw [Go.WideShapes.add_plain, (Box.new W' #[.int .u8 (bat x 0), .int .u8 (bat x 1), .int .u8 (bat x 2), .int .u8 (bat x 3), .int .u8 (bat x 4), .int .u8 (bat x 5), .int .u8 (bat x 6), .int .u8 (bat x 7), .int .u8 (bat x 8), .int .u8 (bat x 9), .int .u8 (bat x 10), .int .u8 (bat x 11)] 69).cell]
      rw [show 0 + j = j by omega]
      simpa [labC] using hu
    gi_wp2_with (gi_at_builtin; go_loud ( refine wpListIn_append_own _ rfl (.tmp 8) (.tmp 10) 79 rfl w1.heap.size 69 i0 _ 12 12 Kd.ht Kd.hi Kd.hz Kd.hsize Kd.hby Kd.hzs Kd.hsz v pre.length _ rfl (hown.alloc _) ⟨W'.heap.size, 0, none⟩ 1 1 (labC x) rfl rfl hnews (labC_one _) (by unfold maxLen; omega) (by omega) (by simp; omega) ?_; intro v' w2 ho2 hg2 _; obtain ⟨p2, e2, hv2⟩ := ownsRow_slice ho2; rw [hv2] at ho2 ⊢; clear hv2; have hP := RowL.push (w := w) (x := x) HBX.out hown HBel.out hsz (by omega) (Nat.le_refl _) ho2 hg2; have hbk : Box w2 w.heap.size #[v] 79 := rowL_box HBX.out hown (by omega) hg2; have z0 := hbk.cell 0; have zf := hbk.frozen 0; have zl := hbk.lt; simp at z0; have HP := hid hP; clear hP hbk ho2 hg2 hnews hown))
    exact HP.out
  case done =>
    rintro D W' XS hXS hD ⟨⟨v, hbx, hown⟩, hbel, hsz⟩ hK
    obtain ⟨p2, e2, hv2⟩ := ownsRow_slice hown
    subst hv2
    have v0 := hbx.cell 0
    have vl := hbx.lt
    simp at v0
    have HOw := hid hown
    have HBel := hid hbel
    have HKD := hid hK
    clear hbx hown hbel hK
    go_wp2
    have hKV := HKD.out
    have hbD : But (fun k => k = D) W' (W'.putObj D (.deferred none)) := But.put W' D _
    have hw1 := hB1.size
    have hbelF : Below w.heap.size w (W'.putObj D (.deferred none)) := HBel.out.trans (hbD.below HBel.out.size fun k hk e => by omega)
    refine ⟨by simp, .inl ⟨_, _, rfl, run_takeDeferred hKV, ?_⟩⟩
    refine ⟨.slice p2 XS.length e2, by simp [results, Tryd.results58, go_sem], p2, e2, XS, rfl, hXS, ?_, hbelF⟩
    refine ownsRow_keep (own_low HOw.out (by omega)) fun k hk hl => hbD.block k hl fun e => ?_
    obtain ⟨cu, h1, h2⟩ := own_tag HOw.out hk
    subst e
    rw [hKV] at h1; cases h1
end Go.Proofs.YtkfcilandmhomaaDoor

namespace Go.Proofs.YtkfcilandmhomaaDoor
open Go.RowKit
set_option maxRecDepth 8000
/-- a label's twelve bytes -/
def padB (s : ByteArray) : List UInt8 := [(bat s 0).toNat.toUInt8, (bat s 1).toNat.toUInt8, (bat s 2).toNat.toUInt8, (bat s 3).toNat.toUInt8, (bat s 4).toNat.toUInt8, (bat s 5).toNat.toUInt8, (bat s 6).toNat.toUInt8, (bat s 7).toNat.toUInt8, (bat s 8).toNat.toUInt8, (bat s 9).toNat.toUInt8, (bat s 10).toNat.toUInt8, (bat s 11).toNat.toUInt8]
/-- how labels are compared -/
def cmpN (s t : ByteArray) : Int := Go.Lib.compareBytes (padB s) (padB t)
theorem bytes_of {w : World} {b : Nat} {s : ByteArray} (h : Box w b #[.int .u8 (bat s 0), .int .u8 (bat s 1), .int .u8 (bat s 2), .int .u8 (bat s 3), .int .u8 (bat s 4), .int .u8 (bat s 5), .int .u8 (bat s 6), .int .u8 (bat s 7), .int .u8 (bat s 8), .int .u8 (bat s 9), .int .u8 (bat s 10), .int .u8 (bat s 11)] 69) (c : Nat) : (Extern.Bytes.bytesOf (.slice (some ⟨b, 0, none⟩) 12 c)).run Tryd.prog w = .ok ⟨(padB s).toArray⟩ w := by
  have q0 := h.cell 0
  have q1 := h.cell 1
  have q2 := h.cell 2
  have q3 := h.cell 3
  have q4 := h.cell 4
  have q5 := h.cell 5
  have q6 := h.cell 6
  have q7 := h.cell 7
  have q8 := h.cell 8
  have q9 := h.cell 9
  have q10 := h.cell 10
  have q11 := h.cell 11
  simp at q0 q1 q2 q3 q4 q5 q6 q7 q8 q9 q10 q11
  simp [Extern.Bytes.bytesOf, Extern.Bytes.loadBytes, Addr.add, q0, q1, q2, q3, q4, q5, q6, q7, q8, q9, q10, q11, go_sem, padB, Result.andThen]
  rfl
theorem bcmp_any {w : World} {b1 b2 : Nat} {s t : ByteArray} (h1 : Box w b1 #[.int .u8 (bat s 0), .int .u8 (bat s 1), .int .u8 (bat s 2), .int .u8 (bat s 3), .int .u8 (bat s 4), .int .u8 (bat s 5), .int .u8 (bat s 6), .int .u8 (bat s 7), .int .u8 (bat s 8), .int .u8 (bat s 9), .int .u8 (bat s 10), .int .u8 (bat s 11)] 69) (h2 : Box w b2 #[.int .u8 (bat t 0), .int .u8 (bat t 1), .int .u8 (bat t 2), .int .u8 (bat t 3), .int .u8 (bat t 4), .int .u8 (bat t 5), .int .u8 (bat t 6), .int .u8 (bat t 7), .int .u8 (bat t 8), .int .u8 (bat t 9), .int .u8 (bat t 10), .int .u8 (bat t 11)] 69) :
    Calls Tryd.prog 53 #[.slice (some ⟨b1, 0, none⟩) 12 12, .slice (some ⟨b2, 0, none⟩) 12 12] w fun e w' => e = .returned (.int .i64 (cmpN s t)) ∧ w' = w := by
  have hx : (callFunc 61 #[.slice (some ⟨b1, 0, none⟩) 12 12, .slice (some ⟨b2, 0, none⟩) 12 12]).run Tryd.prog w = .ok (Go.Next.value (.int .i64 (cmpN s t))) w := by
    rw [run_callFunc_extern Tryd.func61 (by kernel_rfl) (by kernel_rfl) (by kernel_rfl) (e := Extern.BytealgCompare.compare) (by kernel_rfl)]
    have hr : (Extern.BytealgCompare.compare #[.slice (some ⟨b1, 0, none⟩) 12 12, .slice (some ⟨b2, 0, none⟩) 12 12]).run Tryd.prog w = .ok (.int .i64 (cmpN s t)) w := by
      change Sem.run Tryd.prog (do pure (goInt (Extern.BytealgCompare.cmp (← Extern.Bytes.bytesOf (.slice (some ⟨b1, 0, none⟩) 12 12)) (← Extern.Bytes.bytesOf (.slice (some ⟨b2, 0, none⟩) 12 12))))) w = _
      simp only [Sem.run_bind, bytes_of h1, bytes_of h2, Sem.run_pure, Result.andThen]
      rw [Go.Lib.cmp_eq]
      rfl
    rw [hr]
    rfl
  go_enter Tryd.func53, Tryd.ntmps53
  go_wp2
  go_ret
  exact ⟨rfl, rfl⟩
set_option maxHeartbeats 1000000 in
theorem compare_any (x y : ByteArray) (w : World) : Calls Tryd.prog 47 #[labV x, labV y] w fun e w' => e = .returned (.int .i64 (cmpN x y)) ∧ ∃ q os, w' = Go.Sort.grow (w.drewN q) os := by
  obtain ⟨W, hW⟩ : ∃ V, V = (w.alloc (.cells #[.int .u8 (bat x 0), .int .u8 (bat x 1), .int .u8 (bat x 2), .int .u8 (bat x 3), .int .u8 (bat x 4), .int .u8 (bat x 5), .int .u8 (bat x 6), .int .u8 (bat x 7), .int .u8 (bat x 8), .int .u8 (bat x 9), .int .u8 (bat x 10), .int .u8 (bat x 11)] 69)).alloc (.cells #[.int .u8 (bat y 0), .int .u8 (bat y 1), .int .u8 (bat y 2), .int .u8 (bat y 3), .int .u8 (bat y 4), .int .u8 (bat y 5), .int .u8 (bat y 6), .int .u8 (bat y 7), .int .u8 (bat y 8), .int .u8 (bat y 9), .int .u8 (bat y 10), .int .u8 (bat y 11)] 69) := ⟨_, rfl⟩
  have hb1 : Box W w.heap.size #[.int .u8 (bat x 0), .int .u8 (bat x 1), .int .u8 (bat x 2), .int .u8 (bat x 3), .int .u8 (bat x 4), .int .u8 (bat x 5), .int .u8 (bat x 6), .int .u8 (bat x 7), .int .u8 (bat x 8), .int .u8 (bat x 9), .int .u8 (bat x 10), .int .u8 (bat x 11)] 69 := by rw [hW]; exact (Box.new w _ _).below ((Below.refl _ _).alloc (Nat.le_refl _) _)
  have hb2 : Box W (w.heap.size + 1) #[.int .u8 (bat y 0), .int .u8 (bat y 1), .int .u8 (bat y 2), .int .u8 (bat y 3), .int .u8 (bat y 4), .int .u8 (bat y 5), .int .u8 (bat y 6), .int .u8 (bat y 7), .int .u8 (bat y 8), .int .u8 (bat y 9), .int .u8 (bat y 10), .int .u8 (bat y 11)] 69 := by
    have h := Box.new (w.alloc (.cells #[.int .u8 (bat x 0), .int .u8 (bat x 1), .int .u8 (bat x 2), .int .u8 (bat x 3), .int .u8 (bat x 4), .int .u8 (bat x 5), .int .u8 (bat x 6), .int .u8 (bat x 7), .int .u8 (bat x 8), .int .u8 (bat x 9), .int .u8 (bat x 10), .int .u8 (bat x 11)] 69)) #[.int .u8 (bat y 0), .int .u8 (bat y 1), .int .u8 (bat y 2), .int .u8 (bat y 3), .int .u8 (bat y 4), .int .u8 (bat y 5), .int .u8 (bat y 6), .int .u8 (bat y 7), .int .u8 (bat y 8), .int .u8 (bat y 9), .int .u8 (bat y 10), .int .u8 (bat y 11)] 69
    rw [World.size_alloc] at h
    rw [hW]; exact h
  have HB1 := hid hb1
  have HB2 := hid hb2
  have HW := hid hW
  clear hb1 hb2 hW
  simp only [labV, labC]
  go_enter Tryd.func47, Tryd.ntmps47
  go_upto_region 1 with fail
  rw [← HW.out]
  refine wp_region_calmE 30 (fun wx => Below W.heap.size W wx) [(0, true), (1, true)] (.one 2 false [(3, true)] .done) (by kernel_rfl) (by kernel_rfl) (Below.refl _ _).drew ?_
  refine wpPre_e rfl rfl (fun K1 hK1 => ?_)
  apply Exists.intro
  refine And.intro (fun wx hx => ?_) ?_
  · go_simp
    try rfl
  go_simp
  refine hK1 _ ?_
  clear hK1 K1
  refine wpPre_e rfl rfl (fun K1 hK1 => ?_)
  apply Exists.intro
  refine And.intro (fun wx hx => ?_) ?_
  · go_simp
    try rfl
  go_simp
  refine hK1 _ ?_
  clear hK1 K1
  refine wpPre_nil ?_
  refine wpTr_e rfl (fun K1 hK1 => ?_)
  refine step_call rfl 53 #[.tmp 5, .tmp 6] _ rfl Tryd.f53 Tryd.func53 (by kernel_rfl) rfl #[.slice (some ⟨w.heap.size, 0, none⟩) 12 12, .slice (some ⟨w.heap.size + 1, 0, none⟩) 12 12] rfl _ (bcmp_any (HB1.out.below (Below.refl _ _).drew) (HB2.out.below (Below.refl _ _).drew)) (fun e w3 h3 => ?_)
  obtain ⟨rfl, rfl⟩ := h3
  refine ⟨_, rfl, ?_⟩
  go_simp
  refine hK1 _ _ (fun h => by cases h) ?_
  clear hK1 K1
  refine wpPre_e rfl rfl (fun K1 hK1 => ?_)
  apply Exists.intro
  refine And.intro (fun wx hx => ?_) ?_
  · go_simp
    try rfl
  go_simp
  refine hK1 _ ?_
  clear hK1 K1
  refine wpPre_nil ?_
  refine wpTr_done ?_
  go_wp2
  go_ret
  refine ⟨rfl, 1, #[.cells #[.int .u8 (bat x 0), .int .u8 (bat x 1), .int .u8 (bat x 2), .int .u8 (bat x 3), .int .u8 (bat x 4), .int .u8 (bat x 5), .int .u8 (bat x 6), .int .u8 (bat x 7), .int .u8 (bat x 8), .int .u8 (bat x 9), .int .u8 (bat x 10), .int .u8 (bat x 11)] 69, .cells #[.int .u8 (bat y 0), .int .u8 (bat y 1), .int .u8 (bat y 2), .int .u8 (bat y 3), .int .u8 (bat y 4), .int .u8 (bat y 5), .int .u8 (bat y 6), .int .u8 (bat y 7), .int .u8 (bat y 8), .int .u8 (bat y 9), .int .u8 (bat y 10), .int .u8 (bat y 11)] 69], ?_⟩
  rw [HW.out, Go.Sort.alloc_eq_grow, Go.Sort.alloc_eq_grow, Go.Sort.grow_grow]
  rfl
end Go.Proofs.YtkfcilandmhomaaDoor
