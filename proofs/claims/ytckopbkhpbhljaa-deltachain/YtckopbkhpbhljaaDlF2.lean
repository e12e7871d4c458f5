import Derived.Test.YtckopbkhpbhljaaPack12
import Derived.RangeFuncNested
import Derived.RangeFuncBound
import Derived.RangeFuncCalls
import Derived.Shelf.Abstract
import Derived.Shelf.RegionOpen
import Derived.WalkKit
import Derived.OwnWalkIn
import Derived.TacticsInMore
import Derived.LoopNIn
import Derived.LoopIn
import Derived.Laws.EntriesVeiled
namespace Go.Proofs.Ytckopbkhpbhljaa
open Go.RowKit
set_option maxRecDepth 8000
attribute [local go_sem] Oper.semAt_some
/-- what the loop's body is handed -/
def encSC (x : Ev ByteArray VT) : Array Value := #[.string x.key, .agg #[.string x.a, .string x.b.text, .slice x.b.p x.b.n x.b.c, .bool x.inA, .bool x.inB]]
def TSC (t : TypeId) : Prop := t = 78 ∨ t = 70
structure ItSC (B : Nat) (S : Nat → Prop) (J : List (Ev ByteArray VT) → World → Prop) (XS : List (Ev ByteArray VT)) (rA rB : Nat) (wr : World) (pre : List (Ev ByteArray VT)) (la : LT ByteArray) (lb : LT VT) : Prop where
  xa : Box wr rA #[.slice la.p la.n la.c, .func (.func 70) #[] #[]] 78
  xb : Box wr rB #[.slice lb.p lb.n lb.c, .func (.func 60) #[] #[]] 70
  ia : LT.In elStr wr S la
  ib : LT.In elCell wr S lb
  ne : rA ≠ rB
  ga : B ≤ rA
  gb : B ≤ rB
  j : J pre wr
  fu : ∃ f, XS = pre ++ mrgF id VT.text (⟨#[]⟩ : ByteArray) zC f la.toL lb.toL ∧ la.toL.length + lb.toL.length ≤ f
/-- how long the list in a block is -/
def lenSC (w : World) (b : Nat) : Nat := match w.cell? ⟨b, 0, none⟩ with
  | some (.slice _ n _) => n
  | _ => 0
theorem lenSC_of {w : World} {b : Nat} {p : Option Addr} {n c : Nat} {v : Value} {t : TypeId} (h : Box w b #[.slice p n c, v] t) : lenSC w b = n := by
  unfold lenSC
  rw [h.cell]
  rfl
set_option maxRecDepth 60000 in
set_option maxHeartbeats 8000000 in
/-- the iterator -/
theorem it_SC (w : World) (ba bb b0 : Nat) (la : LT ByteArray) (lb : LT VT) (S : Nat → Prop) (hxa : Box w ba #[.slice la.p la.n la.c, .func (.func 70) #[] #[]] 78) (hxb : Box w bb #[.slice lb.p lb.n lb.c, .func (.func 60) #[] #[]] 70) (ha : LT.In elStr w S la) (hb : LT.In elCell w S lb) (hS : ∀ k, S k → k < w.heap.size ∧ k ≠ b0) :
    SeqT Try.prog 84 #[.pointer (some ⟨ba, 0, none⟩), .pointer (some ⟨bb, 0, none⟩)] encSC (mrgF id VT.text (⟨#[]⟩ : ByteArray) zC (la.n + lb.n) la.toL lb.toL) TSC b0 w := by
  intro l J W hBW hJ hY h0
  refine callsIn_wide.2 ?_
  obtain ⟨XS, hXS⟩ : ∃ z, z = mrgF id VT.text (⟨#[]⟩ : ByteArray) zC (la.n + lb.n) la.toL lb.toL := ⟨_, rfl⟩
  rw [← hXS] at hY ⊢
  have HA := hid (ha.kept hBW.size fun k hk hl => hBW.block k hl)
  have HLb := hid (hb.kept hBW.size fun k hk hl => hBW.block k hl)
  have hxa' := hxa.below hBW
  have hxb' := hxb.below hBW
  have hsz := hBW.size
  have a0 := hxa'.cell 0
  have a1 := hxa'.cell 1
  have b0' := hxb'.cell 0
  have b1 := hxb'.cell 1
  have al := hxa'.lt
  have bl := hxb'.lt
  simp at a0 a1 b0' b1
  have HS := hid hS
  have HXS := hid hXS
  clear hxa hxb ha hb hxa' hxb' hS hXS
  show Calls Try.prog 84 #[.func (.yield l) #[] #[], .pointer (some ⟨ba, 0, none⟩), .pointer (some ⟨bb, 0, none⟩)] W _
  go_enter Try.func84, Try.ntmps84
  go_upto_region 0 with fail
  go_cut [4, 5] (fun x y wx => ∃ rA rB, x = .pointer (some ⟨rA, 0, none⟩) ∧ y = .pointer (some ⟨rB, 0, none⟩) ∧ rA ≠ rB ∧ W.heap.size ≤ rA ∧ W.heap.size ≤ rB ∧ Box wx rA #[.slice la.p la.n la.c, .func (.func 70) #[] #[]] 78 ∧ Box wx rB #[.slice lb.p lb.n lb.c, .func (.func 60) #[] #[]] 70 ∧ Below W.heap.size W wx)
  case first =>
    refine wp_region_calmE 30 (fun wx => Below W.heap.size W wx) [(0, false), (1, false)] (.two 2 true [] (.one 3 true [] (.one 4 true [] (.one 5 false [] .done))) 3 true [] (.one 2 true [] (.one 4 true [] (.one 5 false [] .done)))) (by kernel_rfl) (by kernel_rfl) (Below.refl _ _).drew ?_
    refine wpPre_e rfl rfl (fun K1 hK1 => ?_)
    apply Exists.intro
    refine And.intro (fun wx hx => ?_) ?_
    · have e0 := below_fact hx rfl a0
      have e1 := below_fact hx rfl a1
      have e2 := below_fact hx rfl b0'
      have e3 := below_fact hx rfl b1
      go_simp
      try rfl
    go_simp
    refine hK1 _ ?_
    clear hK1 K1
    refine wpPre_e rfl rfl (fun K1 hK1 => ?_)
    apply Exists.intro
    refine And.intro (fun wx hx => ?_) ?_
    · have e0 := below_fact hx rfl a0
      have e1 := below_fact hx rfl a1
      have e2 := below_fact hx rfl b0'
      have e3 := below_fact hx rfl b1
      go_simp
      try rfl
    go_simp
    refine hK1 _ ?_
    clear hK1 K1
    refine wpPre_nil ?_
    refine wpTr_two rfl rfl (fun K1 hK1 => ?_) (fun K1 hK1 => ?_)
    · go_simp
      have h1 : Below W.heap.size W (W.alloc (.cells #[.slice none 0 0, .nilFunc] 78)).drew := ((Below.refl W.heap.size W).alloc (Nat.le_refl _) _).drew
      refine hK1 _ _ (fun _ => h1) ?_
      clear hK1 K1 h1
      refine wpPre_nil ?_
      refine wpTr_e rfl (fun K1 hK1 => ?_)
      go_simp
      have h1 : Below W.heap.size W ((W.alloc (.cells #[.slice none 0 0, .nilFunc] 78)).alloc (.cells #[.slice none 0 0, .nilFunc] 70)).drew := (((Below.refl W.heap.size W).alloc (Nat.le_refl _) _).alloc (by simp) _).drew
      refine hK1 _ _ (fun _ => h1) ?_
      clear hK1 K1
      refine wpPre_nil ?_
      obtain ⟨V, hV⟩ : ∃ V, V = ((W.alloc (.cells #[.slice none 0 0, .nilFunc] 78)).alloc (.cells #[.slice none 0 0, .nilFunc] 70)).drew := ⟨_, rfl⟩
      rw [← hV] at h1
      have hv1 : Box V W.heap.size #[.slice none 0 0, .nilFunc] 78 := by rw [hV]; exact ((Box.new W _ _).below ((Below.refl _ _).alloc (Nat.le_refl _) _)).below (Below.refl _ _).drew
      have hv2 : Box V (W.heap.size + 1) #[.slice none 0 0, .nilFunc] 70 := by
        have h := Box.new (W.alloc (.cells #[.slice none 0 0, .nilFunc] 78)) #[.slice none 0 0, .nilFunc] 70
        rw [show (W.alloc (.cells #[.slice none 0 0, .nilFunc] 78)).heap.size = W.heap.size + 1 by simp] at h
        rw [hV]; exact h.below (Below.refl _ _).drew
      rw [← hV]
      clear hV
      have m0 := hv1.cell 0
      have m1 := hv1.cell 1
      have mf0 := hv1.frozen 0
      have mf1 := hv1.frozen 1
      have ml := hv1.lt
      simp at m0 m1
      have n0 := hv2.cell 0
      have n1 := hv2.cell 1
      have nf0 := hv2.frozen 0
      have nf1 := hv2.frozen 1
      have nl := hv2.lt
      simp at n0 n1
      have n12 : W.heap.size ≠ W.heap.size + 1 := by omega
      have n21 : W.heap.size + 1 ≠ W.heap.size := by omega
      refine wpTr_e rfl (fun K1 hK1 => ?_)
      go_simp
      refine hK1 _ _ (fun _ => (h1.setCell (p := ⟨W.heap.size, 0, none⟩) (by simp) _).setCell (p := ⟨W.heap.size, 1, none⟩) (by simp) _) ?_
      clear hK1 K1
      refine wpPre_nil ?_
      refine wpTr_e rfl (fun K1 hK1 => ?_)
      go_simp
      refine hK1 _ _ (fun h => by cases h) ?_
      clear hK1 K1
      refine wpPre_nil ?_
      refine wpTr_done ?_
      go_wp2_with fail
      go_meet
      have hbt : But (fun k => k = W.heap.size ∨ k = W.heap.size + 1) V ((((V.setCell ⟨W.heap.size, 0, none⟩ (.slice la.p la.n la.c)).setCell ⟨W.heap.size, 1, none⟩ (.func (.func 70) #[] #[])).setCell ⟨W.heap.size + 1, 0, none⟩ (.slice lb.p lb.n lb.c)).setCell ⟨W.heap.size + 1, 1, none⟩ (.func (.func 60) #[] #[])) := ((((But.refl (fun k => k = W.heap.size ∨ k = W.heap.size + 1) V).setCell (p := ⟨W.heap.size, 0, none⟩) (fun _ => by simp) _).setCell (p := ⟨W.heap.size, 1, none⟩) (fun _ => by simp) _).setCell (p := ⟨W.heap.size + 1, 0, none⟩) (fun _ => by simp) _).setCell (p := ⟨W.heap.size + 1, 1, none⟩) (fun _ => by simp) _
      have hbel : Below W.heap.size W ((((V.setCell ⟨W.heap.size, 0, none⟩ (.slice la.p la.n la.c)).setCell ⟨W.heap.size, 1, none⟩ (.func (.func 70) #[] #[])).setCell ⟨W.heap.size + 1, 0, none⟩ (.slice lb.p lb.n lb.c)).setCell ⟨W.heap.size + 1, 1, none⟩ (.func (.func 60) #[] #[])) := h1.trans (hbt.below h1.size fun k hk e => by omega)
      have ha1 : Box ((V.setCell ⟨W.heap.size, 0, none⟩ (.slice la.p la.n la.c)).setCell ⟨W.heap.size, 1, none⟩ (.func (.func 70) #[] #[])) (W.heap.size) #[.slice la.p la.n la.c, .func (.func 70) #[] #[]] 78 := (hv1.set 0 _).set 1 _
      have ha2 : Box ((((V.setCell ⟨W.heap.size, 0, none⟩ (.slice la.p la.n la.c)).setCell ⟨W.heap.size, 1, none⟩ (.func (.func 70) #[] #[])).setCell ⟨W.heap.size + 1, 0, none⟩ (.slice lb.p lb.n lb.c)).setCell ⟨W.heap.size + 1, 1, none⟩ (.func (.func 60) #[] #[])) (W.heap.size) #[.slice la.p la.n la.c, .func (.func 70) #[] #[]] 78 := ha1.but (((But.one _ (W.heap.size + 1)).setAt 0 _).setAt 1 _) (by omega)
      have hb1 : Box ((V.setCell ⟨W.heap.size, 0, none⟩ (.slice la.p la.n la.c)).setCell ⟨W.heap.size, 1, none⟩ (.func (.func 70) #[] #[])) (W.heap.size + 1) #[.slice none 0 0, .nilFunc] 70 := hv2.but (((But.one _ (W.heap.size)).setAt 0 _).setAt 1 _) (by omega)
      have hb2 : Box ((((V.setCell ⟨W.heap.size, 0, none⟩ (.slice la.p la.n la.c)).setCell ⟨W.heap.size, 1, none⟩ (.func (.func 70) #[] #[])).setCell ⟨W.heap.size + 1, 0, none⟩ (.slice lb.p lb.n lb.c)).setCell ⟨W.heap.size + 1, 1, none⟩ (.func (.func 60) #[] #[])) (W.heap.size + 1) #[.slice lb.p lb.n lb.c, .func (.func 60) #[] #[]] 70 := (hb1.set 0 _).set 1 _
      exact ⟨W.heap.size, W.heap.size + 1, rfl, rfl, by omega, by omega, by omega, ha2, hb2, hbel⟩
    · go_simp
      have h1 : Below W.heap.size W (W.alloc (.cells #[.slice none 0 0, .nilFunc] 70)).drew := ((Below.refl W.heap.size W).alloc (Nat.le_refl _) _).drew
      refine hK1 _ _ (fun _ => h1) ?_
      clear hK1 K1 h1
      refine wpPre_nil ?_
      refine wpTr_e rfl (fun K1 hK1 => ?_)
      go_simp
      have h1 : Below W.heap.size W ((W.alloc (.cells #[.slice none 0 0, .nilFunc] 70)).alloc (.cells #[.slice none 0 0, .nilFunc] 78)).drew := (((Below.refl W.heap.size W).alloc (Nat.le_refl _) _).alloc (by simp) _).drew
      refine hK1 _ _ (fun _ => h1) ?_
      clear hK1 K1
      refine wpPre_nil ?_
      obtain ⟨V, hV⟩ : ∃ V, V = ((W.alloc (.cells #[.slice none 0 0, .nilFunc] 70)).alloc (.cells #[.slice none 0 0, .nilFunc] 78)).drew := ⟨_, rfl⟩
      rw [← hV] at h1
      have hv1 : Box V W.heap.size #[.slice none 0 0, .nilFunc] 70 := by rw [hV]; exact ((Box.new W _ _).below ((Below.refl _ _).alloc (Nat.le_refl _) _)).below (Below.refl _ _).drew
      have hv2 : Box V (W.heap.size + 1) #[.slice none 0 0, .nilFunc] 78 := by
        have h := Box.new (W.alloc (.cells #[.slice none 0 0, .nilFunc] 70)) #[.slice none 0 0, .nilFunc] 78
        rw [show (W.alloc (.cells #[.slice none 0 0, .nilFunc] 70)).heap.size = W.heap.size + 1 by simp] at h
        rw [hV]; exact h.below (Below.refl _ _).drew
      rw [← hV]
      clear hV
      have m0 := hv1.cell 0
      have m1 := hv1.cell 1
      have mf0 := hv1.frozen 0
      have mf1 := hv1.frozen 1
      have ml := hv1.lt
      simp at m0 m1
      have n0 := hv2.cell 0
      have n1 := hv2.cell 1
      have nf0 := hv2.frozen 0
      have nf1 := hv2.frozen 1
      have nl := hv2.lt
      simp at n0 n1
      have n12 : W.heap.size ≠ W.heap.size + 1 := by omega
      have n21 : W.heap.size + 1 ≠ W.heap.size := by omega
      refine wpTr_e rfl (fun K1 hK1 => ?_)
      go_simp
      refine hK1 _ _ (fun _ => (h1.setCell (p := ⟨W.heap.size + 1, 0, none⟩) (by simp) _).setCell (p := ⟨W.heap.size + 1, 1, none⟩) (by simp) _) ?_
      clear hK1 K1
      refine wpPre_nil ?_
      refine wpTr_e rfl (fun K1 hK1 => ?_)
      go_simp
      refine hK1 _ _ (fun h => by cases h) ?_
      clear hK1 K1
      refine wpPre_nil ?_
      refine wpTr_done ?_
      go_wp2_with fail
      go_meet
      have hbt : But (fun k => k = W.heap.size ∨ k = W.heap.size + 1) V ((((V.setCell ⟨W.heap.size + 1, 0, none⟩ (.slice la.p la.n la.c)).setCell ⟨W.heap.size + 1, 1, none⟩ (.func (.func 70) #[] #[])).setCell ⟨W.heap.size, 0, none⟩ (.slice lb.p lb.n lb.c)).setCell ⟨W.heap.size, 1, none⟩ (.func (.func 60) #[] #[])) := ((((But.refl (fun k => k = W.heap.size ∨ k = W.heap.size + 1) V).setCell (p := ⟨W.heap.size + 1, 0, none⟩) (fun _ => by simp) _).setCell (p := ⟨W.heap.size + 1, 1, none⟩) (fun _ => by simp) _).setCell (p := ⟨W.heap.size, 0, none⟩) (fun _ => by simp) _).setCell (p := ⟨W.heap.size, 1, none⟩) (fun _ => by simp) _
      have hbel : Below W.heap.size W ((((V.setCell ⟨W.heap.size + 1, 0, none⟩ (.slice la.p la.n la.c)).setCell ⟨W.heap.size + 1, 1, none⟩ (.func (.func 70) #[] #[])).setCell ⟨W.heap.size, 0, none⟩ (.slice lb.p lb.n lb.c)).setCell ⟨W.heap.size, 1, none⟩ (.func (.func 60) #[] #[])) := h1.trans (hbt.below h1.size fun k hk e => by omega)
      have ha1 : Box ((V.setCell ⟨W.heap.size + 1, 0, none⟩ (.slice la.p la.n la.c)).setCell ⟨W.heap.size + 1, 1, none⟩ (.func (.func 70) #[] #[])) (W.heap.size + 1) #[.slice la.p la.n la.c, .func (.func 70) #[] #[]] 78 := (hv2.set 0 _).set 1 _
      have ha2 : Box ((((V.setCell ⟨W.heap.size + 1, 0, none⟩ (.slice la.p la.n la.c)).setCell ⟨W.heap.size + 1, 1, none⟩ (.func (.func 70) #[] #[])).setCell ⟨W.heap.size, 0, none⟩ (.slice lb.p lb.n lb.c)).setCell ⟨W.heap.size, 1, none⟩ (.func (.func 60) #[] #[])) (W.heap.size + 1) #[.slice la.p la.n la.c, .func (.func 70) #[] #[]] 78 := ha1.but (((But.one _ (W.heap.size)).setAt 0 _).setAt 1 _) (by omega)
      have hb1 : Box ((V.setCell ⟨W.heap.size + 1, 0, none⟩ (.slice la.p la.n la.c)).setCell ⟨W.heap.size + 1, 1, none⟩ (.func (.func 70) #[] #[])) (W.heap.size) #[.slice none 0 0, .nilFunc] 70 := hv1.but (((But.one _ (W.heap.size + 1)).setAt 0 _).setAt 1 _) (by omega)
      have hb2 : Box ((((V.setCell ⟨W.heap.size + 1, 0, none⟩ (.slice la.p la.n la.c)).setCell ⟨W.heap.size + 1, 1, none⟩ (.func (.func 70) #[] #[])).setCell ⟨W.heap.size, 0, none⟩ (.slice lb.p lb.n lb.c)).setCell ⟨W.heap.size, 1, none⟩ (.func (.func 60) #[] #[])) (W.heap.size) #[.slice lb.p lb.n lb.c, .func (.func 60) #[] #[]] 70 := (hb1.set 0 _).set 1 _
      exact ⟨W.heap.size + 1, W.heap.size, rfl, rfl, by omega, by omega, by omega, ha2, hb2, hbel⟩
  case rest =>
    obtain ⟨rA, rB, rfl, rfl, hne, hga, hgb, hxA, hxB, hbel⟩ := hcut
    clear a0 a1 b0' b1 al bl
    have HI0 : Hid (ItSC w.heap.size S J XS rA rB wc [] la lb) := ⟨hxA, hxB, HA.out.below hbel, HLb.out.below hbel, hne, by omega, by omega, hJ [] W wc _ h0 (But.ofBelow (X := fun _ => False) hbel) (fun _ _ e => e.elim), la.n + lb.n, by rw [HXS.out]; rfl, by rw [LT.toL_len, LT.toL_len]; exact Nat.le_refl _⟩
    clear hxA hxB hbel
    go_wp2_with fail
    go_loopw [6] (fun _ wr => ∃ pre l1 l2, ItSC w.heap.size S J XS rA rB wr pre l1 l2) (fun _ wr => lenSC wr rA + lenSC wr rB)
    case atStart => exact ⟨[], la, lb, HI0.out⟩
    case round =>
      obtain ⟨pre, l1, l2, hI⟩ := hrel
      have HI := hid hI
      clear hI HI0
      have ax := HI.out.xa
      have bx := HI.out.xb
      have a0 := ax.cell 0
      have a1 := ax.cell 1
      have b0' := bx.cell 0
      have b1 := bx.cell 1
      have al := ax.lt
      have bl := bx.lt
      simp at a0 a1 b0' b1
      clear ax bx
      go_wp2_with fail
      refine (count_S l1.p l1.n l1.c wr).mono ?_
      rintro e w0 ⟨rfl, hb0⟩
      have HB0 := hid hb0
      clear hb0 a0 a1 b0' b1 al bl
      by_cases hnA : 0 < l1.n
      · have hgA : (0 : Int) < (l1.n : Int) := by omega
        have hne : l1.n + l2.n ≠ 0 := by omega
        obtain ⟨w1, hw1⟩ : ∃ V, V = w0 := ⟨_, rfl⟩
        rw [← hw1]
        have HB1 : Hid (Below wr.heap.size wr w1) := by rw [hw1]; exact HB0.out
        clear hw1
        have HLe : Hid (Below wr.heap.size wr w1 → Calls Try.prog 85 #[.agg #[.slice l1.p l1.n l1.c, .func (.func 70) #[] #[]], .agg #[.slice l2.p l2.n l2.c, .func (.func 60) #[] #[]]] w1 fun e w' => e = .returned (.string (lkL id VT.text l1.toL l2.toL)) ∧ Below w1.heap.size w1 w') := fun h => least_SC w1 l1 l2 S (HI.out.ia.below h) (HI.out.ib.below h) hne
        have ax := HI.out.xa.below HB1.out
        have bx := HI.out.xb.below HB1.out
        have a0 := ax.cell 0
        have a1 := ax.cell 1
        have b0' := bx.cell 0
        have b1 := bx.cell 1
        have al := ax.lt
        have bl := bx.lt
        simp at a0 a1 b0' b1
        clear ax bx
        go_wp2_with fail
        refine (HLe.out HB1.out).mono ?_
        rintro e w2 ⟨rfl, hb2⟩
        have HB2 : Hid (Below wr.heap.size wr w2) := HB1.out.trans (hb2.mono HB1.out.size)
        clear hb2 a0 a1 b0' b1 al bl HLe
        obtain ⟨w3, hw3⟩ : ∃ V, V = w2.alloc (.cells #[.string ⟨#[]⟩, .string ⟨#[]⟩, .slice none 0 0, .bool false, .bool false] 114) := ⟨_, rfl⟩
        have hb3 : Below w2.heap.size w2 w3 := by rw [hw3]; exact (Below.refl _ _).alloc (Nat.le_refl _) _
        have hq3 : Box w3 w2.heap.size #[.string ⟨#[]⟩, .string ⟨#[]⟩, .slice none 0 0, .bool false, .bool false] 114 := by rw [hw3]; exact Box.new _ _ _
        have HB3 : Hid (Below wr.heap.size wr w3) := HB2.out.trans (hb3.mono HB2.out.size)
        have HQ3 := hid hq3
        have HW3 := hid hw3
        have hlo : wr.heap.size ≤ w2.heap.size := HB2.out.size
        have HCa := hid (cut_S w3 rA l1 S (lkL id VT.text l1.toL l2.toL) (HI.out.xa.below HB3.out) (HI.out.ia.below HB3.out) (fun k hk e => by have := HS.out k hk; have := HI.out.ga; omega))
        clear hb3 hq3 hw3
        go_upto_region 4 with fail
        rw [← HW3.out]
        go_wp2_with fail
        refine HCa.out.mono ?_
        rintro e w4 ⟨l3, rfl, hx4, hi4, ht4, hbt4⟩
        have hlA : rA < wr.heap.size := HI.out.xa.lt
        have hlB : rB < wr.heap.size := HI.out.xb.lt
        have hq4 : Box w4 w2.heap.size #[.string ⟨#[]⟩, .string ⟨#[]⟩, .slice none 0 0, .bool false, .bool false] 114 := HQ3.out.but hbt4 (by omega)
        have HQ4 := hid hq4
        have H4 := hid (And.intro hx4 (And.intro hi4 (And.intro ht4 hbt4)))
        have q0 := hq4.cell 0
        have qf0 := hq4.frozen 0
        have q1 := hq4.cell 1
        have qf1 := hq4.frozen 1
        have q2 := hq4.cell 2
        have qf2 := hq4.frozen 2
        have q3 := hq4.cell 3
        have qf3 := hq4.frozen 3
        have q4 := hq4.cell 4
        have qf4 := hq4.frozen 4
        have ql := hq4.lt
        simp at q0 q1 q2 q3 q4
        clear hx4 hi4 ht4 hbt4 hq4 HCa HQ3 HW3
        go_upto_region 5 with fail
        obtain ⟨v4, hv4⟩ : ∃ V, V = ((w4.setCell ⟨w2.heap.size, 0, none⟩ (.string (getL (⟨#[]⟩ : ByteArray) l1.toL (hitL id l1.toL (lkL id VT.text l1.toL l2.toL))))).setCell ⟨w2.heap.size, 3, none⟩ (.bool (hitL id l1.toL (lkL id VT.text l1.toL l2.toL)))) := ⟨_, rfl⟩
        rw [← hv4]
        have hqb4 : But (fun k => k = w2.heap.size) w4 v4 := by rw [hv4]; exact (((But.one w4 w2.heap.size).setAt 0 (.string (getL (⟨#[]⟩ : ByteArray) l1.toL (hitL id l1.toL (lkL id VT.text l1.toL l2.toL))))).setAt 3 (.bool (hitL id l1.toL (lkL id VT.text l1.toL l2.toL))))
        have hqx4 : Box v4 w2.heap.size #[.string (getL (⟨#[]⟩ : ByteArray) l1.toL (hitL id l1.toL (lkL id VT.text l1.toL l2.toL))), .string ⟨#[]⟩, .slice none 0 0, .bool (hitL id l1.toL (lkL id VT.text l1.toL l2.toL)), .bool false] 114 := by rw [hv4]; exact ((HQ4.out.set 0 (.string (getL (⟨#[]⟩ : ByteArray) l1.toL (hitL id l1.toL (lkL id VT.text l1.toL l2.toL))))).set 3 (.bool (hitL id l1.toL (lkL id VT.text l1.toL l2.toL))))
        have HQB4 := hid hqb4
        have HQX4 := hid hqx4
        have hbt34 : But (fun k => k = rA) wr v4 := ⟨hqb4.os.trans (H4.out.2.2.2.os.trans HB3.out.os), hqb4.tape.trans (H4.out.2.2.2.tape.trans HB3.out.tape), hqb4.output.trans (H4.out.2.2.2.output.trans HB3.out.output), Nat.le_trans HB3.out.size (Nat.le_trans H4.out.2.2.2.size hqb4.size), fun k hk hn => ((hqb4.block k (by have := HB3.out.size; have := H4.out.2.2.2.size; omega) (by omega)).trans (H4.out.2.2.2.block k (by have := HB3.out.size; omega) hn)).trans (HB3.out.block k hk)⟩
        have HBt4 := hid hbt34
        have HCb := hid (cut_C v4 rB l2 S (lkL id VT.text l1.toL l2.toL) (HI.out.xb.but hbt34 (fun e => HI.out.ne e.symm)) (HI.out.ib.but hbt34 (fun k hk _ e => by have := HS.out k hk; have := HI.out.ga; omega)) (fun k hk e => by have := HS.out k hk; have := HI.out.gb; omega))
        clear q0 qf0 q1 qf1 q2 qf2 q3 qf3 q4 qf4 ql
        clear hv4 hqb4 hqx4 hbt34
        go_wp2_with fail
        refine HCb.out.mono ?_
        rintro e w5 ⟨l4, rfl, hx5, hi5, ht5, hbt5⟩
        have hq5 : Box w5 w2.heap.size #[.string (getL (⟨#[]⟩ : ByteArray) l1.toL (hitL id l1.toL (lkL id VT.text l1.toL l2.toL))), .string ⟨#[]⟩, .slice none 0 0, .bool (hitL id l1.toL (lkL id VT.text l1.toL l2.toL)), .bool false] 114 := HQX4.out.but hbt5 (by omega)
        have HQ5 := hid hq5
        have H5 := hid (And.intro hx5 (And.intro hi5 (And.intro ht5 hbt5)))
        have q0 := hq5.cell 0
        have qf0 := hq5.frozen 0
        have q1 := hq5.cell 1
        have qf1 := hq5.frozen 1
        have q2 := hq5.cell 2
        have qf2 := hq5.frozen 2
        have q3 := hq5.cell 3
        have qf3 := hq5.frozen 3
        have q4 := hq5.cell 4
        have qf4 := hq5.frozen 4
        have ql := hq5.lt
        simp at q0 q1 q2 q3 q4
        clear hx5 hi5 ht5 hbt5 hq5 HCb
        go_upto_region 6 with fail
        obtain ⟨v5, hv5⟩ : ∃ V, V = (((w5.setCell ⟨w2.heap.size, 1, none⟩ (.string (getL zC l2.toL (hitL VT.text l2.toL (lkL id VT.text l1.toL l2.toL))).text)).setCell ⟨w2.heap.size, 2, none⟩ (.slice (getL zC l2.toL (hitL VT.text l2.toL (lkL id VT.text l1.toL l2.toL))).p (getL zC l2.toL (hitL VT.text l2.toL (lkL id VT.text l1.toL l2.toL))).n (getL zC l2.toL (hitL VT.text l2.toL (lkL id VT.text l1.toL l2.toL))).c)).setCell ⟨w2.heap.size, 4, none⟩ (.bool (hitL VT.text l2.toL (lkL id VT.text l1.toL l2.toL)))) := ⟨_, rfl⟩
        rw [← hv5]
        have hqb5 : But (fun k => k = w2.heap.size) w5 v5 := by rw [hv5]; exact ((((But.one w5 w2.heap.size).setAt 1 (.string (getL zC l2.toL (hitL VT.text l2.toL (lkL id VT.text l1.toL l2.toL))).text)).setAt 2 (.slice (getL zC l2.toL (hitL VT.text l2.toL (lkL id VT.text l1.toL l2.toL))).p (getL zC l2.toL (hitL VT.text l2.toL (lkL id VT.text l1.toL l2.toL))).n (getL zC l2.toL (hitL VT.text l2.toL (lkL id VT.text l1.toL l2.toL))).c)).setAt 4 (.bool (hitL VT.text l2.toL (lkL id VT.text l1.toL l2.toL))))
        have hqx5 : Box v5 w2.heap.size #[.string (getL (⟨#[]⟩ : ByteArray) l1.toL (hitL id l1.toL (lkL id VT.text l1.toL l2.toL))), .string (getL zC l2.toL (hitL VT.text l2.toL (lkL id VT.text l1.toL l2.toL))).text, .slice (getL zC l2.toL (hitL VT.text l2.toL (lkL id VT.text l1.toL l2.toL))).p (getL zC l2.toL (hitL VT.text l2.toL (lkL id VT.text l1.toL l2.toL))).n (getL zC l2.toL (hitL VT.text l2.toL (lkL id VT.text l1.toL l2.toL))).c, .bool (hitL id l1.toL (lkL id VT.text l1.toL l2.toL)), .bool (hitL VT.text l2.toL (lkL id VT.text l1.toL l2.toL))] 114 := by rw [hv5]; exact (((HQ5.out.set 1 (.string (getL zC l2.toL (hitL VT.text l2.toL (lkL id VT.text l1.toL l2.toL))).text)).set 2 (.slice (getL zC l2.toL (hitL VT.text l2.toL (lkL id VT.text l1.toL l2.toL))).p (getL zC l2.toL (hitL VT.text l2.toL (lkL id VT.text l1.toL l2.toL))).n (getL zC l2.toL (hitL VT.text l2.toL (lkL id VT.text l1.toL l2.toL))).c)).set 4 (.bool (hitL VT.text l2.toL (lkL id VT.text l1.toL l2.toL))))
        clear q0 qf0 q1 qf1 q2 qf2 q3 qf3 q4 qf4 ql
        clear hv5
        have hbA : But (fun k => k = rA ∨ k = rB) wr v5 := ⟨hqb5.os.trans (H5.out.2.2.2.os.trans HBt4.out.os), hqb5.tape.trans (H5.out.2.2.2.tape.trans HBt4.out.tape), hqb5.output.trans (H5.out.2.2.2.output.trans HBt4.out.output), Nat.le_trans HBt4.out.size (Nat.le_trans H5.out.2.2.2.size hqb5.size), fun k hk hn => ((hqb5.block k (by have := HBt4.out.size; have := H5.out.2.2.2.size; omega) (by omega)).trans (H5.out.2.2.2.block k (by have := HBt4.out.size; omega) (fun e => hn (.inr e)))).trans (HBt4.out.block k hk (fun e => hn (.inl e)))⟩
        have hs45 := H5.out.2.2.2.size
        have hxA5 : Box v5 rA #[.slice l3.p l3.n l3.c, .func (.func 70) #[] #[]] 78 := ((H4.out.1.but HQB4.out (by omega)).but H5.out.2.2.2 HI.out.ne).but hqb5 (by omega)
        have hxB5 : Box v5 rB #[.slice l4.p l4.n l4.c, .func (.func 60) #[] #[]] 70 := H5.out.1.but hqb5 (by omega)
        have hSr : ∀ k, S k → k ≠ rA ∧ k ≠ rB ∧ k < w2.heap.size := fun k hk => by have := HS.out k hk; have := HI.out.ga; have := HI.out.gb; exact ⟨by omega, by omega, by omega⟩
        have hiA5 : LT.In elStr v5 S l3 := ((H4.out.2.1.but HQB4.out (fun k hk _ e => by have := hSr k hk; omega)).but H5.out.2.2.2 (fun k hk _ e => (hSr k hk).2.1 e)).but hqb5 (fun k hk _ e => by have := hSr k hk; omega)
        have hiB5 : LT.In elCell v5 S l4 := H5.out.2.1.but hqb5 (fun k hk _ e => by have := hSr k hk; omega)
        have hj5 : J pre v5 := hJ pre wr v5 _ HI.out.j hbA fun k _ e => by
          rcases e with rfl | rfl
          · exact ⟨HI.out.ga, _, HI.out.xa, _, _, rfl, .inl rfl⟩
          · exact ⟨HI.out.gb, _, HI.out.xb, _, _, rfl, .inr rfl⟩
        obtain ⟨fu, hfu, hle⟩ := HI.out.fu
        obtain ⟨gu, hgu, hle2⟩ := mrg_step id VT.text (⟨#[]⟩ : ByteArray) zC fu l1.toL l2.toL (by rw [LT.toL_len, LT.toL_len]; exact hne) hle
        have hXS : XS = (pre ++ [(evL id VT.text (⟨#[]⟩ : ByteArray) zC l1.toL l2.toL)]) ++ mrgF id VT.text (⟨#[]⟩ : ByteArray) zC gu (nxA id VT.text l1.toL l2.toL) (nxB id VT.text l1.toL l2.toL) := by rw [hfu, hgu]; simp
        obtain ⟨fn, tmps, assign, body, hy, hR⟩ := hY pre (evL id VT.text (⟨#[]⟩ : ByteArray) zC l1.toL l2.toL) v5 hj5 ⟨_, hXS.symm⟩
        dsimp only [encSC, evL] at hy
        have HN : Hid (∀ W3, J (pre ++ [(evL id VT.text (⟨#[]⟩ : ByteArray) zC l1.toL l2.toL)]) W3 → KeepT w.heap.size TSC b0 v5 W3 → ItSC w.heap.size S J XS rA rB W3 (pre ++ [(evL id VT.text (⟨#[]⟩ : ByteArray) zC l1.toL l2.toL)]) l3 l4) := fun W3 hj hk => by
          refine ⟨hk.tag _ _ _ HI.out.ga hxA5 (.inl rfl), hk.tag _ _ _ HI.out.gb hxB5 (.inr rfl), hiA5.kept hk.size (fun k hS hl => hk.low k (HS.out k hS).1 hl (HS.out k hS).2), hiB5.kept hk.size (fun k hS hl => hk.low k (HS.out k hS).1 hl (HS.out k hS).2), HI.out.ne, HI.out.ga, HI.out.gb, hj, gu, ?_, ?_⟩
          · rw [H4.out.2.2.1, H5.out.2.2.1]; exact hXS
          · rw [H4.out.2.2.1, H5.out.2.2.1]; exact hle2
        have HM : Hid (l3.n + l4.n < l1.n + l2.n) := by
          have h := mrg_less id VT.text l1.toL l2.toL (by rw [LT.toL_len, LT.toL_len]; exact hne)
          have e3 := congrArg List.length H4.out.2.2.1
          have e4 := congrArg List.length H5.out.2.2.1
          rw [LT.toL_len] at e3 e4
          unfold nxA nxB at h
          rw [LT.toL_len, LT.toL_len] at h
          show _ < _
          omega
        have q0 := hqx5
        have q0 := hqx5.cell 0
        have qf0 := hqx5.frozen 0
        have q1 := hqx5.cell 1
        have qf1 := hqx5.frozen 1
        have q2 := hqx5.cell 2
        have qf2 := hqx5.frozen 2
        have q3 := hqx5.cell 3
        have qf3 := hqx5.frozen 3
        have q4 := hqx5.cell 4
        have qf4 := hqx5.frozen 4
        have ql := hqx5.lt
        simp at q0 q1 q2 q3 q4
        clear hqb5 hqx5 hbA hs45 hxA5 hxB5 hSr hiA5 hiB5 hj5 hfu hle hgu hle2 hXS H4 H5 HQ4 HQ5 HQB4 HQX4 HBt4
        refine (wpIn_wide (n := 0)).1 ?_
        gi_wp2
        refine ⟨rfl, hR.mono ?_⟩
        rintro e W3 ⟨rfl, hj3, hk3⟩
        have HI3 := hid (HN.out W3 hj3 hk3)
        clear hj3 hk3 hR hy HN
        gi_wp2
        go_wp2_with fail
        go_roundw
        case rel => exact ⟨_, l3, l4, HI3.out⟩
        case measure =>
          rw [lenSC_of HI3.out.xa, lenSC_of HI3.out.xb, lenSC_of HI.out.xa, lenSC_of HI.out.xb]
          exact HM.out
      · have hgA : ¬ (0 : Int) < (l1.n : Int) := by omega
        have ax := HI.out.xa.below HB0.out
        have bx := HI.out.xb.below HB0.out
        have a0 := ax.cell 0
        have a1 := ax.cell 1
        have b0' := bx.cell 0
        have b1 := bx.cell 1
        have al := ax.lt
        have bl := bx.lt
        simp at a0 a1 b0' b1
        clear ax bx
        go_wp2_with fail
        refine (count_C l2.p l2.n l2.c w0).mono ?_
        rintro e w1 ⟨rfl, hb1⟩
        have HB1 : Hid (Below wr.heap.size wr w1) := HB0.out.trans (hb1.mono HB0.out.size)
        clear hb1 a0 a1 b0' b1 al bl
        by_cases hnB : 0 < l2.n
        · have hgB : (0 : Int) < (l2.n : Int) := by omega
          have hne : l1.n + l2.n ≠ 0 := by omega
          have HLe : Hid (Below wr.heap.size wr w1 → Calls Try.prog 85 #[.agg #[.slice l1.p l1.n l1.c, .func (.func 70) #[] #[]], .agg #[.slice l2.p l2.n l2.c, .func (.func 60) #[] #[]]] w1 fun e w' => e = .returned (.string (lkL id VT.text l1.toL l2.toL)) ∧ Below w1.heap.size w1 w') := fun h => least_SC w1 l1 l2 S (HI.out.ia.below h) (HI.out.ib.below h) hne
          have ax := HI.out.xa.below HB1.out
          have bx := HI.out.xb.below HB1.out
          have a0 := ax.cell 0
          have a1 := ax.cell 1
          have b0' := bx.cell 0
          have b1 := bx.cell 1
          have al := ax.lt
          have bl := bx.lt
          simp at a0 a1 b0' b1
          clear ax bx
          go_wp2_with fail
          refine (HLe.out HB1.out).mono ?_
          rintro e w2 ⟨rfl, hb2⟩
          have HB2 : Hid (Below wr.heap.size wr w2) := HB1.out.trans (hb2.mono HB1.out.size)
          clear hb2 a0 a1 b0' b1 al bl HLe
          obtain ⟨w3, hw3⟩ : ∃ V, V = w2.alloc (.cells #[.string ⟨#[]⟩, .string ⟨#[]⟩, .slice none 0 0, .bool false, .bool false] 114) := ⟨_, rfl⟩
          have hb3 : Below w2.heap.size w2 w3 := by rw [hw3]; exact (Below.refl _ _).alloc (Nat.le_refl _) _
          have hq3 : Box w3 w2.heap.size #[.string ⟨#[]⟩, .string ⟨#[]⟩, .slice none 0 0, .bool false, .bool false] 114 := by rw [hw3]; exact Box.new _ _ _
          have HB3 : Hid (Below wr.heap.size wr w3) := HB2.out.trans (hb3.mono HB2.out.size)
          have HQ3 := hid hq3
          have HW3 := hid hw3
          have hlo : wr.heap.size ≤ w2.heap.size := HB2.out.size
          have HCa := hid (cut_S w3 rA l1 S (lkL id VT.text l1.toL l2.toL) (HI.out.xa.below HB3.out) (HI.out.ia.below HB3.out) (fun k hk e => by have := HS.out k hk; have := HI.out.ga; omega))
          clear hb3 hq3 hw3
          go_upto_region 4 with fail
          rw [← HW3.out]
          go_wp2_with fail
          refine HCa.out.mono ?_
          rintro e w4 ⟨l3, rfl, hx4, hi4, ht4, hbt4⟩
          have hlA : rA < wr.heap.size := HI.out.xa.lt
          have hlB : rB < wr.heap.size := HI.out.xb.lt
          have hq4 : Box w4 w2.heap.size #[.string ⟨#[]⟩, .string ⟨#[]⟩, .slice none 0 0, .bool false, .bool false] 114 := HQ3.out.but hbt4 (by omega)
          have HQ4 := hid hq4
          have H4 := hid (And.intro hx4 (And.intro hi4 (And.intro ht4 hbt4)))
          have q0 := hq4.cell 0
          have qf0 := hq4.frozen 0
          have q1 := hq4.cell 1
          have qf1 := hq4.frozen 1
          have q2 := hq4.cell 2
          have qf2 := hq4.frozen 2
          have q3 := hq4.cell 3
          have qf3 := hq4.frozen 3
          have q4 := hq4.cell 4
          have qf4 := hq4.frozen 4
          have ql := hq4.lt
          simp at q0 q1 q2 q3 q4
          clear hx4 hi4 ht4 hbt4 hq4 HCa HQ3 HW3
          go_upto_region 5 with fail
          obtain ⟨v4, hv4⟩ : ∃ V, V = ((w4.setCell ⟨w2.heap.size, 0, none⟩ (.string (getL (⟨#[]⟩ : ByteArray) l1.toL (hitL id l1.toL (lkL id VT.text l1.toL l2.toL))))).setCell ⟨w2.heap.size, 3, none⟩ (.bool (hitL id l1.toL (lkL id VT.text l1.toL l2.toL)))) := ⟨_, rfl⟩
          rw [← hv4]
          have hqb4 : But (fun k => k = w2.heap.size) w4 v4 := by rw [hv4]; exact (((But.one w4 w2.heap.size).setAt 0 (.string (getL (⟨#[]⟩ : ByteArray) l1.toL (hitL id l1.toL (lkL id VT.text l1.toL l2.toL))))).setAt 3 (.bool (hitL id l1.toL (lkL id VT.text l1.toL l2.toL))))
          have hqx4 : Box v4 w2.heap.size #[.string (getL (⟨#[]⟩ : ByteArray) l1.toL (hitL id l1.toL (lkL id VT.text l1.toL l2.toL))), .string ⟨#[]⟩, .slice none 0 0, .bool (hitL id l1.toL (lkL id VT.text l1.toL l2.toL)), .bool false] 114 := by rw [hv4]; exact ((HQ4.out.set 0 (.string (getL (⟨#[]⟩ : ByteArray) l1.toL (hitL id l1.toL (lkL id VT.text l1.toL l2.toL))))).set 3 (.bool (hitL id l1.toL (lkL id VT.text l1.toL l2.toL))))
          have HQB4 := hid hqb4
          have HQX4 := hid hqx4
          have hbt34 : But (fun k => k = rA) wr v4 := ⟨hqb4.os.trans (H4.out.2.2.2.os.trans HB3.out.os), hqb4.tape.trans (H4.out.2.2.2.tape.trans HB3.out.tape), hqb4.output.trans (H4.out.2.2.2.output.trans HB3.out.output), Nat.le_trans HB3.out.size (Nat.le_trans H4.out.2.2.2.size hqb4.size), fun k hk hn => ((hqb4.block k (by have := HB3.out.size; have := H4.out.2.2.2.size; omega) (by omega)).trans (H4.out.2.2.2.block k (by have := HB3.out.size; omega) hn)).trans (HB3.out.block k hk)⟩
          have HBt4 := hid hbt34
          have HCb := hid (cut_C v4 rB l2 S (lkL id VT.text l1.toL l2.toL) (HI.out.xb.but hbt34 (fun e => HI.out.ne e.symm)) (HI.out.ib.but hbt34 (fun k hk _ e => by have := HS.out k hk; have := HI.out.ga; omega)) (fun k hk e => by have := HS.out k hk; have := HI.out.gb; omega))
          clear q0 qf0 q1 qf1 q2 qf2 q3 qf3 q4 qf4 ql
          clear hv4 hqb4 hqx4 hbt34
          go_wp2_with fail
          refine HCb.out.mono ?_
          rintro e w5 ⟨l4, rfl, hx5, hi5, ht5, hbt5⟩
          have hq5 : Box w5 w2.heap.size #[.string (getL (⟨#[]⟩ : ByteArray) l1.toL (hitL id l1.toL (lkL id VT.text l1.toL l2.toL))), .string ⟨#[]⟩, .slice none 0 0, .bool (hitL id l1.toL (lkL id VT.text l1.toL l2.toL)), .bool false] 114 := HQX4.out.but hbt5 (by omega)
          have HQ5 := hid hq5
          have H5 := hid (And.intro hx5 (And.intro hi5 (And.intro ht5 hbt5)))
          have q0 := hq5.cell 0
          have qf0 := hq5.frozen 0
          have q1 := hq5.cell 1
          have qf1 := hq5.frozen 1
          have q2 := hq5.cell 2
          have qf2 := hq5.frozen 2
          have q3 := hq5.cell 3
          have qf3 := hq5.frozen 3
          have q4 := hq5.cell 4
          have qf4 := hq5.frozen 4
          have ql := hq5.lt
          simp at q0 q1 q2 q3 q4
          clear hx5 hi5 ht5 hbt5 hq5 HCb
          go_upto_region 6 with fail
          obtain ⟨v5, hv5⟩ : ∃ V, V = (((w5.setCell ⟨w2.heap.size, 1, none⟩ (.string (getL zC l2.toL (hitL VT.text l2.toL (lkL id VT.text l1.toL l2.toL))).text)).setCell ⟨w2.heap.size, 2, none⟩ (.slice (getL zC l2.toL (hitL VT.text l2.toL (lkL id VT.text l1.toL l2.toL))).p (getL zC l2.toL (hitL VT.text l2.toL (lkL id VT.text l1.toL l2.toL))).n (getL zC l2.toL (hitL VT.text l2.toL (lkL id VT.text l1.toL l2.toL))).c)).setCell ⟨w2.heap.size, 4, none⟩ (.bool (hitL VT.text l2.toL (lkL id VT.text l1.toL l2.toL)))) := ⟨_, rfl⟩
          rw [← hv5]
          have hqb5 : But (fun k => k = w2.heap.size) w5 v5 := by rw [hv5]; exact ((((But.one w5 w2.heap.size).setAt 1 (.string (getL zC l2.toL (hitL VT.text l2.toL (lkL id VT.text l1.toL l2.toL))).text)).setAt 2 (.slice (getL zC l2.toL (hitL VT.text l2.toL (lkL id VT.text l1.toL l2.toL))).p (getL zC l2.toL (hitL VT.text l2.toL (lkL id VT.text l1.toL l2.toL))).n (getL zC l2.toL (hitL VT.text l2.toL (lkL id VT.text l1.toL l2.toL))).c)).setAt 4 (.bool (hitL VT.text l2.toL (lkL id VT.text l1.toL l2.toL))))
          have hqx5 : Box v5 w2.heap.size #[.string (getL (⟨#[]⟩ : ByteArray) l1.toL (hitL id l1.toL (lkL id VT.text l1.toL l2.toL))), .string (getL zC l2.toL (hitL VT.text l2.toL (lkL id VT.text l1.toL l2.toL))).text, .slice (getL zC l2.toL (hitL VT.text l2.toL (lkL id VT.text l1.toL l2.toL))).p (getL zC l2.toL (hitL VT.text l2.toL (lkL id VT.text l1.toL l2.toL))).n (getL zC l2.toL (hitL VT.text l2.toL (lkL id VT.text l1.toL l2.toL))).c, .bool (hitL id l1.toL (lkL id VT.text l1.toL l2.toL)), .bool (hitL VT.text l2.toL (lkL id VT.text l1.toL l2.toL))] 114 := by rw [hv5]; exact (((HQ5.out.set 1 (.string (getL zC l2.toL (hitL VT.text l2.toL (lkL id VT.text l1.toL l2.toL))).text)).set 2 (.slice (getL zC l2.toL (hitL VT.text l2.toL (lkL id VT.text l1.toL l2.toL))).p (getL zC l2.toL (hitL VT.text l2.toL (lkL id VT.text l1.toL l2.toL))).n (getL zC l2.toL (hitL VT.text l2.toL (lkL id VT.text l1.toL l2.toL))).c)).set 4 (.bool (hitL VT.text l2.toL (lkL id VT.text l1.toL l2.toL))))
          clear q0 qf0 q1 qf1 q2 qf2 q3 qf3 q4 qf4 ql
          clear hv5
          have hbA : But (fun k => k = rA ∨ k = rB) wr v5 := ⟨hqb5.os.trans (H5.out.2.2.2.os.trans HBt4.out.os), hqb5.tape.trans (H5.out.2.2.2.tape.trans HBt4.out.tape), hqb5.output.trans (H5.out.2.2.2.output.trans HBt4.out.output), Nat.le_trans HBt4.out.size (Nat.le_trans H5.out.2.2.2.size hqb5.size), fun k hk hn => ((hqb5.block k (by have := HBt4.out.size; have := H5.out.2.2.2.size; omega) (by omega)).trans (H5.out.2.2.2.block k (by have := HBt4.out.size; omega) (fun e => hn (.inr e)))).trans (HBt4.out.block k hk (fun e => hn (.inl e)))⟩
          have hs45 := H5.out.2.2.2.size
          have hxA5 : Box v5 rA #[.slice l3.p l3.n l3.c, .func (.func 70) #[] #[]] 78 := ((H4.out.1.but HQB4.out (by omega)).but H5.out.2.2.2 HI.out.ne).but hqb5 (by omega)
          have hxB5 : Box v5 rB #[.slice l4.p l4.n l4.c, .func (.func 60) #[] #[]] 70 := H5.out.1.but hqb5 (by omega)
          have hSr : ∀ k, S k → k ≠ rA ∧ k ≠ rB ∧ k < w2.heap.size := fun k hk => by have := HS.out k hk; have := HI.out.ga; have := HI.out.gb; exact ⟨by omega, by omega, by omega⟩
          have hiA5 : LT.In elStr v5 S l3 := ((H4.out.2.1.but HQB4.out (fun k hk _ e => by have := hSr k hk; omega)).but H5.out.2.2.2 (fun k hk _ e => (hSr k hk).2.1 e)).but hqb5 (fun k hk _ e => by have := hSr k hk; omega)
          have hiB5 : LT.In elCell v5 S l4 := H5.out.2.1.but hqb5 (fun k hk _ e => by have := hSr k hk; omega)
          have hj5 : J pre v5 := hJ pre wr v5 _ HI.out.j hbA fun k _ e => by
            rcases e with rfl | rfl
            · exact ⟨HI.out.ga, _, HI.out.xa, _, _, rfl, .inl rfl⟩
            · exact ⟨HI.out.gb, _, HI.out.xb, _, _, rfl, .inr rfl⟩
          obtain ⟨fu, hfu, hle⟩ := HI.out.fu
          obtain ⟨gu, hgu, hle2⟩ := mrg_step id VT.text (⟨#[]⟩ : ByteArray) zC fu l1.toL l2.toL (by rw [LT.toL_len, LT.toL_len]; exact hne) hle
          have hXS : XS = (pre ++ [(evL id VT.text (⟨#[]⟩ : ByteArray) zC l1.toL l2.toL)]) ++ mrgF id VT.text (⟨#[]⟩ : ByteArray) zC gu (nxA id VT.text l1.toL l2.toL) (nxB id VT.text l1.toL l2.toL) := by rw [hfu, hgu]; simp
          obtain ⟨fn, tmps, assign, body, hy, hR⟩ := hY pre (evL id VT.text (⟨#[]⟩ : ByteArray) zC l1.toL l2.toL) v5 hj5 ⟨_, hXS.symm⟩
          dsimp only [encSC, evL] at hy
          have HN : Hid (∀ W3, J (pre ++ [(evL id VT.text (⟨#[]⟩ : ByteArray) zC l1.toL l2.toL)]) W3 → KeepT w.heap.size TSC b0 v5 W3 → ItSC w.heap.size S J XS rA rB W3 (pre ++ [(evL id VT.text (⟨#[]⟩ : ByteArray) zC l1.toL l2.toL)]) l3 l4) := fun W3 hj hk => by
            refine ⟨hk.tag _ _ _ HI.out.ga hxA5 (.inl rfl), hk.tag _ _ _ HI.out.gb hxB5 (.inr rfl), hiA5.kept hk.size (fun k hS hl => hk.low k (HS.out k hS).1 hl (HS.out k hS).2), hiB5.kept hk.size (fun k hS hl => hk.low k (HS.out k hS).1 hl (HS.out k hS).2), HI.out.ne, HI.out.ga, HI.out.gb, hj, gu, ?_, ?_⟩
            · rw [H4.out.2.2.1, H5.out.2.2.1]; exact hXS
            · rw [H4.out.2.2.1, H5.out.2.2.1]; exact hle2
          have HM : Hid (l3.n + l4.n < l1.n + l2.n) := by
            have h := mrg_less id VT.text l1.toL l2.toL (by rw [LT.toL_len, LT.toL_len]; exact hne)
            have e3 := congrArg List.length H4.out.2.2.1
            have e4 := congrArg List.length H5.out.2.2.1
            rw [LT.toL_len] at e3 e4
            unfold nxA nxB at h
            rw [LT.toL_len, LT.toL_len] at h
            show _ < _
            omega
          have q0 := hqx5
          have q0 := hqx5.cell 0
          have qf0 := hqx5.frozen 0
          have q1 := hqx5.cell 1
          have qf1 := hqx5.frozen 1
          have q2 := hqx5.cell 2
          have qf2 := hqx5.frozen 2
          have q3 := hqx5.cell 3
          have qf3 := hqx5.frozen 3
          have q4 := hqx5.cell 4
          have qf4 := hqx5.frozen 4
          have ql := hqx5.lt
          simp at q0 q1 q2 q3 q4
          clear hqb5 hqx5 hbA hs45 hxA5 hxB5 hSr hiA5 hiB5 hj5 hfu hle hgu hle2 hXS H4 H5 HQ4 HQ5 HQB4 HQX4 HBt4
          refine (wpIn_wide (n := 0)).1 ?_
          gi_wp2
          refine ⟨rfl, hR.mono ?_⟩
          rintro e W3 ⟨rfl, hj3, hk3⟩
          have HI3 := hid (HN.out W3 hj3 hk3)
          clear hj3 hk3 hR hy HN
          gi_wp2
          go_wp2_with fail
          go_roundw
          case rel => exact ⟨_, l3, l4, HI3.out⟩
          case measure =>
            rw [lenSC_of HI3.out.xa, lenSC_of HI3.out.xb, lenSC_of HI.out.xa, lenSC_of HI.out.xb]
            exact HM.out
        · have hgB : ¬ (0 : Int) < (l2.n : Int) := by omega
          have HE : Hid (J XS w1) := by
            obtain ⟨fu, hfu, _⟩ := HI.out.fu
            rw [mrg_end _ _ _ _ _ _ _ (by rw [LT.toL_len, LT.toL_len]; omega), List.append_nil] at hfu
            rw [hfu]
            exact hJ pre wr w1 _ HI.out.j (But.ofBelow (X := fun _ => False) HB1.out) fun _ _ e => e.elim
          go_wp2
          go_end0
          exact ⟨⟨_, rfl⟩, HE.out⟩
end Go.Proofs.Ytckopbkhpbhljaa
