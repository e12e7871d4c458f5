import Derived.Test.YtjkfihngkfphfaaDoorDkS
import Derived.Test.YtjkfihngkfphfaaDoorRgE
import Derived.Maps.RangeWalk
import Derived.RangeFuncCalls
import Derived.RangeFuncNested
import Derived.RangeFuncBound
import Derived.RangeFuncBox
import Derived.TacticsInMore
import Derived.Deep.DeepCutAuto
namespace Go.Proofs.YtjkfihngkfphfaaDoor
open Go.RowKit
open Go.ChangeMaps (setBlock)
set_option maxRecDepth 8000
/-- maps.Keys: a function over one new block that holds the map -/
theorem mkeys_any (b : Nat) (w : World) : Calls Tryd.prog 25 #[.map (some b)] w fun e w' => e = .returned (.func (.func 31) #[] #[.pointer (some ⟨w.heap.size, 0, none⟩)]) ∧ w' = w.alloc (.cells #[.map (some b)] 52) := by
  go_enter Tryd.func25, Tryd.ntmps25
  go_wp2
  exact bodyPost_ret (v := .func (.func 31) #[] #[.pointer (some ⟨w.heap.size, 0, none⟩)]) (by simp [results, Tryd.results25, go_sem]) rfl ⟨rfl, rfl⟩
set_option maxHeartbeats 4000000 in
/-- what it hands out, ranged over: the names of all files, in some order -/
theorem keys_seq (w : World) (bm b b0 : Nat) (E : List (ByteArray × Value)) (hbx : Box w bm #[.map (some b)] 52) (hm : MpI w b E) (hb0 : b ≠ b0) :
    SeqM Tryd.prog 31 #[.pointer (some ⟨bm, 0, none⟩)] (fun s => #[labV s]) (fun pre => pre.Nodup ∧ ∀ s ∈ pre, s ∈ E.map (·.1)) (fun XS => XS.Perm (E.map (·.1))) b0 w := by
  intro l J W hBW hJ hY h0
  refine callsIn_wide.2 ?_
  have HM := hid (hm.kept (hBW.block b hm.lt))
  have hx := hbx.below hBW
  have x0 := hx.cell 0
  simp at x0
  have hsz := hBW.size
  have hbl := hm.lt
  clear hbx hx
  show Calls Tryd.prog 31 #[.func (.yield l) #[] #[], .pointer (some ⟨bm, 0, none⟩)] W _
  go_enter Tryd.func31, Tryd.ntmps31
  go_wp2_with (at_range; refine wpList_rng rfl _ rfl rfl HM.out ?_; intro w0 hrg0 hb0')
  have HJ0 : Hid (J [] w0) := hJ.grow h0 hb0'
  have HS0 : Hid (W.heap.size < w0.heap.size) := by obtain ⟨o, ho, _⟩ := hrg0.itr; exact (Array.getElem?_eq_some_iff.1 ho).1
  have HR0 := hid hrg0
  clear hrg0 hb0' h0
  go_loopw [6] (fun _ wr => ∃ pre : List ByteArray, Rg wr b W.heap.size E pre ∧ J pre wr ∧ W.heap.size < wr.heap.size) (fun _ wr => wr.rangeLeft b W.heap.size)
  case atStart => exact ⟨[], HR0.out, HJ0.out, HS0.out⟩
  case round =>
    obtain ⟨pre, hrg, hj, hsw⟩ := hrel
    have HN := hid hrg
    have HJ := hid hj
    clear hrg hj
    go_wp2_with (at_next; refine wpList_nxt rfl _ rfl rfl HN.out ?_ ?_)
    · intro hp
      go_wp2
      go_end0
      exact ⟨⟨_, rfl⟩, pre, hp, HJ.out⟩
    · intro s v w1 hsv hsp hr1 hb1 hs1 hl1 hen
      have hbr : b ≠ W.heap.size := by omega
      have hj1 : J pre w1 := hJ pre wr w1 _ HJ.out hb1 fun k _ e => by
        obtain ⟨o, ho, hk⟩ := HN.out.itr
        subst e
        exact ⟨hsz, o, ho, hk⟩
      have HL : Hid (w1.rangeLeft b W.heap.size < wr.rangeLeft b W.heap.size) := hl1
      have HR1 := hid hr1
      have hsE : s ∈ E.map (·.1) := List.mem_map.2 ⟨(s, v), hsv, rfl⟩
      have HP : Hid ((pre ++ [s]).Nodup ∧ ∀ x ∈ pre ++ [s], x ∈ E.map (·.1)) := by
        obtain ⟨_, _, _, _, _, _, _, _, _, _, _, _, h8, h9⟩ := hr1
        exact ⟨h8, h9⟩
      obtain ⟨V, hV⟩ : ∃ V, V = w1.alloc (.cells (labC s).toArray 50) := ⟨_, rfl⟩
      have hBV : Below w1.heap.size w1 V := by rw [hV]; exact (Below.refl _ _).alloc (Nat.le_refl _) _
      have HX : Hid (Box V w1.heap.size (labC s).toArray 50) := by rw [hV]; exact Box.new _ _ _
      have HV := hid hV
      have HBV := hid hBV
      have hjV : J pre V := hJ.grow hj1 hBV
      clear hV hBV hj1 hr1 hl1 hsE hsv
      obtain ⟨fn, tmps, assign, body, hy, hR⟩ := hY pre s V hjV HP.out
      have HYR := hid (And.intro hy hR)
      clear hy hR hjV
      have hs1' : w1.heap.size = wr.heap.size := hs1
      simp only [labV, labC] at hen ⊢
      go_upto_region 3 with fail
      have hv := HV.out
      simp only [labC] at hv
      rw [← hv]
      clear hv
      have hX := HX.out
      simp only [labC, hs1'] at hX
      have q0 := hX.cell 0
      have q1 := hX.cell 1
      have q2 := hX.cell 2
      have q3 := hX.cell 3
      have q4 := hX.cell 4
      have q5 := hX.cell 5
      have q6 := hX.cell 6
      have q7 := hX.cell 7
      have q8 := hX.cell 8
      have q9 := hX.cell 9
      have q10 := hX.cell 10
      have q11 := hX.cell 11
      have hxl := hX.lt
      simp at q0 q1 q2 q3 q4 q5 q6 q7 q8 q9 q10 q11
      have hy := HYR.out.1
      have hR := HYR.out.2
      simp only [labV, labC] at hy
      clear hX
      refine (wpIn_wide (n := 0)).1 ?_
      gi_wp2
      refine ⟨rfl, hR.mono ?_⟩
      rintro e W3 ⟨rfl, hj3, hk3⟩
      have HJ3 := hid hj3
      have HK3 := hid hk3
      clear hj3 hk3 hR hy HYR
      have HR3 : Hid (Rg W3 b W.heap.size E (pre ++ [s]) ∧ W3.rangeLeft b W.heap.size = w1.rangeLeft b W.heap.size ∧ W.heap.size < W3.heap.size) := by
        have hr1 : W.heap.size < w1.heap.size := by rw [hs1]; exact hsw
        have hb1' : b < w1.heap.size := by omega
        have e1 := HBV.out.block b hb1'
        have e2 := HBV.out.block W.heap.size hr1
        have hrV := HR1.out.kept e1 e2
        obtain ⟨o, ho, hk⟩ := hrV.itr
        have e3 := HK3.out.low b hbl (Nat.lt_of_lt_of_le hb1' HBV.out.size) hb0
        have e4 := (HK3.out.itr W.heap.size o hsz ho hk).trans ho.symm
        exact ⟨hrV.kept e3 e4, (rangeLeft_kept e3 e4).trans (rangeLeft_kept e1 e2), Nat.lt_of_lt_of_le (Nat.lt_of_lt_of_le hr1 HBV.out.size) HK3.out.size⟩
      clear HK3
      gi_wp2
      go_wp2_with fail
      go_roundw
      case rel => exact ⟨pre ++ [s], HR3.out.1, HJ3.out, HR3.out.2.2⟩
      case measure =>
        rw [HR3.out.2.1]
        exact HL.out
end Go.Proofs.YtjkfihngkfphfaaDoor
