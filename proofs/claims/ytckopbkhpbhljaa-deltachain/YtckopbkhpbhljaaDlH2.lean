import Derived.Test.YtckopbkhpbhljaaDlG
namespace Go.Proofs.Ytckopbkhpbhljaa
open Go.RowKit
set_option maxRecDepth 8000
attribute [local go_sem] Oper.semAt_some
/-- what comes out of what was met -/
def selwo_SC (pre : List (Ev ByteArray VT)) : List ByteArray := ((pre.filter fun x => !x.inB).map fun x => x.a)
theorem selwo_SC_le (pre : List (Ev ByteArray VT)) : (selwo_SC pre).length ≤ pre.length := by simp [selwo_SC, List.length_filter_le]
set_option maxRecDepth 60000 in
set_option maxHeartbeats 8000000 in
/-- wo -/
theorem wo_SC (w : World) (la : LT ByteArray) (lb : LT VT) (S : Nat → Prop) (ha : LT.In elStr w S la) (hb : LT.In elCell w S lb) (hS : ∀ k, S k → k < w.heap.size) (hn : la.n + lb.n ≤ 1000000) (XS : List (Ev ByteArray VT)) (hXS : XS = mrgF id VT.text (⟨#[]⟩ : ByteArray) zC (la.n + lb.n) la.toL lb.toL) :
    Calls Try.prog 38 #[.agg #[.slice la.p la.n la.c, .func (.func 70) #[] #[]], .agg #[.slice lb.p lb.n lb.c, .func (.func 60) #[] #[]]] w fun e w' => ∃ l : LT ByteArray, e = .returned (.agg #[.slice l.p l.n l.c, .func (.func 70) #[] #[]]) ∧ LT.In elStr w' (fun k => S k ∨ w.heap.size ≤ k) l ∧ l.toL = ((XS.filter fun x => !x.inB).map fun x => x.a) ∧ Below w.heap.size w w' := by
  obtain ⟨W, hW⟩ : ∃ V, V = (((w.alloc (.cells #[.slice la.p la.n la.c, .func (.func 70) #[] #[]] 78)).alloc (.cells #[.slice lb.p lb.n lb.c, .func (.func 60) #[] #[]] 70)).alloc (.cells #[.slice none 0 0, .nilFunc] 78)).alloc (.cells #[.slice none 0 0, .func (.func 70) #[] #[]] 78) := ⟨_, rfl⟩
  have hB : Below w.heap.size w W := by rw [hW]; exact ((((Below.refl _ _).alloc (Nat.le_refl _) _).alloc (by simp) _).alloc (by simp; omega) _).alloc (by simp; omega) _
  have hWs : W.heap.size = w.heap.size + 4 := by rw [hW]; simp
  have hx0 : Box W w.heap.size #[.slice la.p la.n la.c, .func (.func 70) #[] #[]] 78 := by
    rw [hW]; exact (((Box.new w _ _).below ((Below.refl _ _).alloc (Nat.le_refl _) _)).below ((Below.refl _ _).alloc (Nat.le_refl _) _)).below ((Below.refl _ _).alloc (Nat.le_refl _) _)
  have hx1 : Box W (w.heap.size + 1) #[.slice lb.p lb.n lb.c, .func (.func 60) #[] #[]] 70 := by
    have h := Box.new (w.alloc (.cells #[.slice la.p la.n la.c, .func (.func 70) #[] #[]] 78)) #[.slice lb.p lb.n lb.c, .func (.func 60) #[] #[]] 70
    rw [show (w.alloc (.cells #[.slice la.p la.n la.c, .func (.func 70) #[] #[]] 78)).heap.size = w.heap.size + 1 by simp] at h
    rw [hW]; exact (h.below ((Below.refl _ _).alloc (Nat.le_refl _) _)).below ((Below.refl _ _).alloc (Nat.le_refl _) _)
  have hx2 : Box W (w.heap.size + 2) #[.slice none 0 0, .nilFunc] 78 := by
    have h := Box.new ((w.alloc (.cells #[.slice la.p la.n la.c, .func (.func 70) #[] #[]] 78)).alloc (.cells #[.slice lb.p lb.n lb.c, .func (.func 60) #[] #[]] 70)) #[.slice none 0 0, .nilFunc] 78
    rw [show ((w.alloc (.cells #[.slice la.p la.n la.c, .func (.func 70) #[] #[]] 78)).alloc (.cells #[.slice lb.p lb.n lb.c, .func (.func 60) #[] #[]] 70)).heap.size = w.heap.size + 2 by simp] at h
    rw [hW]; exact h.below ((Below.refl _ _).alloc (Nat.le_refl _) _)
  have hx3 : Box W (w.heap.size + 3) #[.slice none 0 0, .func (.func 70) #[] #[]] 78 := by
    have h := Box.new (((w.alloc (.cells #[.slice la.p la.n la.c, .func (.func 70) #[] #[]] 78)).alloc (.cells #[.slice lb.p lb.n lb.c, .func (.func 60) #[] #[]] 70)).alloc (.cells #[.slice none 0 0, .nilFunc] 78)) #[.slice none 0 0, .func (.func 70) #[] #[]] 78
    rw [show (((w.alloc (.cells #[.slice la.p la.n la.c, .func (.func 70) #[] #[]] 78)).alloc (.cells #[.slice lb.p lb.n lb.c, .func (.func 60) #[] #[]] 70)).alloc (.cells #[.slice none 0 0, .nilFunc] 78)).heap.size = w.heap.size + 3 by simp] at h
    rw [hW]; exact h
  have HB := hid hB
  have HW := hid hW
  have HWs := hid hWs
  have HX0 := hid hx0
  have HX1 := hid hx1
  have HX2 := hid hx2
  have HX3 := hid hx3
  have HA := hid ha
  have HLb := hid hb
  have HS := hid hS
  have a0 := hx0.cell 0
  have a1 := hx0.cell 1
  have al := hx0.lt
  have b0' := hx1.cell 0
  have b1 := hx1.cell 1
  have bl := hx1.lt
  simp at a0 a1 b0' b1
  clear hB hW hWs hx0 hx1 hx2 hx3 ha hb hS
  refine (callsIn_wide (n := 0)).1 ?_
  refine callsIn_of_wp_marks Try.func38 rfl trivial ?_ rfl
  simp only [Try.ntmps38, List.size_toArray, List.length_cons, List.length_nil, Nat.reduceAdd, Nat.reduceSub, Array.replicate_succ, Array.replicate_zero, List.push_toArray, List.append_toArray, List.nil_append, List.cons_append]
  refine wpIn_wide.2 ?_
  go_upto_region 2 with fail
  rw [← HW.out]
  obtain ⟨c3, hc3⟩ : ∃ x, x = w.heap.size + 1 + 1 + 1 := ⟨_, rfl⟩
  rw [← hc3]
  obtain ⟨c2, hc2⟩ : ∃ x, x = w.heap.size + 1 + 1 := ⟨_, rfl⟩
  rw [← hc2]
  have HC3 : Hid (c3 = w.heap.size + 3) := hc3
  have HC2 : Hid (c2 = w.heap.size + 2) := hc2
  clear hc3 hc2
  go_wp2_with fail
  refine (mrg_SC la lb W).mono ?_
  rintro e w1 ⟨rfl, hw1⟩
  have hB1 : Below W.heap.size W w1 := by rw [hw1]; exact ((Below.refl _ _).alloc (Nat.le_refl _) _).alloc (by simp) _
  have hs1 : w1.heap.size = W.heap.size + 2 := by rw [hw1]; simp
  have hy0 : Box w1 W.heap.size #[.slice la.p la.n la.c, .func (.func 70) #[] #[]] 78 := by rw [hw1]; exact (Box.new W _ _).below ((Below.refl _ _).alloc (Nat.le_refl _) _)
  have hy1 : Box w1 (W.heap.size + 1) #[.slice lb.p lb.n lb.c, .func (.func 60) #[] #[]] 70 := by
    have h := Box.new (W.alloc (.cells #[.slice la.p la.n la.c, .func (.func 70) #[] #[]] 78)) #[.slice lb.p lb.n lb.c, .func (.func 60) #[] #[]] 70
    rw [show (W.alloc (.cells #[.slice la.p la.n la.c, .func (.func 70) #[] #[]] 78)).heap.size = W.heap.size + 1 by simp] at h
    rw [hw1]; exact h
  have hBw : Below w.heap.size w w1 := HB.out.trans (hB1.mono HB.out.size)
  have hb3 : Box w1 c3 #[.slice none 0 0, .func (.func 70) #[] #[]] 78 := by rw [HC3.out]; exact HX3.out.below hB1
  have hb2 : Box w1 c2 #[.slice none 0 0, .nilFunc] 78 := by rw [HC2.out]; exact HX2.out.below hB1
  have hc3w : c3 < w1.heap.size := hb3.lt
  have hwc3 : w.heap.size ≤ c3 := by rw [HC3.out]; omega
  have hseq : SeqT Try.prog 84 #[.pointer (some ⟨W.heap.size, 0, none⟩), .pointer (some ⟨W.heap.size + 1, 0, none⟩)] encSC XS TSC c3 w1 := by
    rw [hXS]
    exact it_SC w1 W.heap.size (W.heap.size + 1) c3 la lb S hy0 hy1 (HA.out.below hBw) (HLb.out.below hBw) (fun k hk => by have := HS.out k hk; have := hBw.size; have := HC3.out; omega)
  have HSeq := hid hseq
  have HBw := hid hBw
  have HBB2 := hid hb2
  have HRow : Hid (Row elStr w w1.heap.size c3 78 70 w1 []) := ⟨⟨.slice none 0 0, hb3, rfl, .inl ⟨rfl, rfl⟩⟩, hBw, Nat.le_refl _⟩
  have HLen : Hid (XS.length ≤ 1000000) := by show _ ≤ _; rw [hXS]; have := mrg_len id VT.text (⟨#[]⟩ : ByteArray) zC (la.n + lb.n) la.toL lb.toL; omega
  have HXe := hid hXS
  clear hXS hw1 hB1 hs1 hy0 hy1 hBw hb3 hb2 hseq a0 a1 al b0' b1 bl
  go_wp2_with fail
  refine (wpIn_wide (n := 0)).1 ?_
  obtain ⟨i0, Kd⟩ := kindS
  have HAb : Hid (Ab w1.heap.size (okTN TSC) (fun pre W' => Row elStr w w1.heap.size c3 78 70 W' (selwo_SC pre) ∧ Box W' c2 #[.slice none 0 0, .nilFunc] 78)) := Ab.and (Row.ab (selwo_SC) (by unfold TSC; decide) hc3w (by have := HBw.out.size; omega)) (fun s W1 W2 X h1 hbt hx => h1.but hbt fun e => by have := (hx c2 h1.lt e).1; have := HBB2.out.lt; omega)
  have HCC : Hid (c2 + 1 = c3) := by have := HC2.out; have := HC3.out; show _ = _; omega
  refine range_law (gf := 84) (lb := #[.pointer (some ⟨W.heap.size, 0, none⟩), .pointer (some ⟨W.heap.size + 1, 0, none⟩)]) rfl (enters_of Try.func84 (by kernel_rfl) rfl) (encs := encSC) (fun _ => rfl) (XS := XS) (T := TSC) (b0 := c3) HSeq.out
    (fun pre W' => Row elStr w w1.heap.size c3 78 70 W' (selwo_SC pre) ∧ Box W' c2 #[.slice none 0 0, .nilFunc] 78)
    ?abs ⟨HRow.out, HBB2.out⟩
    (fun x a' W' => ∃ q, Box W' q #[.string x.a, .string x.b.text, .slice x.b.p x.b.n x.b.c, .bool x.inA, .bool x.inB] 114 ∧ a' = { tmps := #[.agg #[.slice la.p la.n la.c, .func (.func 70) #[] #[]], .agg #[.slice lb.p lb.n lb.c, .func (.func 60) #[] #[]], .pointer (some ⟨w.heap.size, 0, none⟩), .pointer (some ⟨w.heap.size + 1, 0, none⟩), .pointer (some ⟨c2, 0, none⟩), .pointer (some ⟨c3, 0, none⟩), undef, .pointer (some ⟨q, 0, none⟩), .pointer (some ⟨w.heap.size, 1, none⟩), .func (.func 70) #[] #[], .agg #[.slice none 0 0, .func (.func 70) #[] #[]], .agg #[.slice la.p la.n la.c, .func (.func 70) #[] #[]], .agg #[.slice lb.p lb.n lb.c, .func (.func 60) #[] #[]], .func (.func 84) #[] #[.pointer (some ⟨W.heap.size, 0, none⟩), .pointer (some ⟨W.heap.size + 1, 0, none⟩)], .string x.key, .agg #[.string x.a, .string x.b.text, .slice x.b.p x.b.n x.b.c, .bool x.inA, .bool x.inB], undef, undef, undef, undef, undef, undef, undef, undef, undef, undef, undef], defers := [] })
    ?abx ?assign ?body ?done
  case abs => exact HAb.out
  case abx =>
    rintro ⟨x, a'⟩ W' W'' X ⟨q, hq, he⟩ hbt hx
    exact ⟨q, hq.but hbt fun e => by
      obtain ⟨_, o, h1, h2⟩ := hx q hq.lt e
      rw [show W'.heap[q]? = _ from hq] at h1
      cases h1
      simp [okN, Obj.isCells] at h2, he⟩
  case assign =>
    intro l pre x W' K hI hK
    have hnb : Below W'.heap.size W' (W'.alloc (.cells #[.string x.a, .string x.b.text, .slice x.b.p x.b.n x.b.c, .bool x.inA, .bool x.inB] 114)) := (Below.refl _ _).alloc (Nat.le_refl _) _
    have HK := hid hK
    have HI := hid hI
    clear hK hI
    unfold encSC
    gi_wp2
    exact HK.out _ _ (KeepB.below hnb) (HAb.out.grow HI.out hnb) ⟨W'.heap.size, Box.new _ _ _, rfl⟩
  case body =>
    rintro l pre x a' W' ⟨⟨⟨v, hbx, hown⟩, hbel, hsz⟩, hc2⟩ ⟨q, hq, rfl⟩ hpre
    have hlen : (selwo_SC pre).length < 1000000 := by
      have h1 := hpre.length_le
      have h2 := HLen.out
      have h3 := selwo_SC_le pre
      simp only [List.length_append, List.length_singleton] at h1
      omega
    have v0 := hbx.cell 0
    have vf := hbx.frozen 0
    have vl := hbx.lt
    simp at v0
    have q0 := hq.cell 0
    have q1 := hq.cell 1
    have q2 := hq.cell 2
    have q3 := hq.cell 3
    have q4 := hq.cell 4
    have ql := hq.lt
    simp at q0 q1 q2 q3 q4
    have HBX := hid hbx
    have HC2 := hid hc2
    have HBel := hid hbel
    clear hbx hc2 hq hbel hpre
    cases hx : x.inB with
    | true =>
      rw [hx] at q4
      gi_wp2
      refine ⟨KeepB.below (Below.refl _ _), ?_, HC2.out⟩
      have e : selwo_SC (pre ++ [x]) = selwo_SC pre := by simp [selwo_SC, hx]
      rw [e]
      exact ⟨⟨v, HBX.out, hown⟩, HBel.out, hsz⟩
    | false =>
      rw [hx] at q4
      have hnews : ∀ j u', (elStr.cells x.a)[j]? = some u' → (W'.alloc (.cells #[.string x.a] 9)).cell? ((⟨W'.heap.size, 0, none⟩ : Addr).add j) = some u' := fun j u' hu => by
        rw [Go.WideShapes.add_plain, (Box.new W' #[.string x.a] 9).cell]
        rw [show 0 + j = j by omega]
        simpa [elStr] using hu
      gi_wp2_with (gi_at_builtin; refine wpListIn_append_own _ rfl (.tmp 20) (.tmp 23) 28 rfl w1.heap.size 9 i0 _ 1 16 Kd.ht Kd.hi Kd.hz Kd.hsize Kd.hby Kd.hzs Kd.hsz v (selwo_SC pre).length _ rfl (hown.alloc _) ⟨W'.heap.size, 0, none⟩ 1 1 (elStr.cells x.a) rfl rfl hnews (elStr.one _) (by unfold maxLen; omega) (by omega) (by simp; omega) ?_; intro v' w2 ho2 hg2 _; obtain ⟨p2, e2, hv2⟩ := ownsRow_slice ho2; rw [hv2] at ho2 ⊢; clear hv2; have hP := Row.push (w := w) (T := TSC) (x := x.a) HBX.out hown HBel.out hsz (by unfold TSC; decide) hc3w hwc3 ho2 hg2; have hbk : Box w2 c3 #[v, .func (.func 70) #[] #[]] 78 := row_box HBX.out hown hc3w hg2; have z0 := hbk.cell 0; have zf := hbk.frozen 0; have zl := hbk.lt; simp at z0; have HP := hid hP; clear hP hbk ho2 hg2 hnews hown)
      refine ⟨HP.out.1, ?_, HC2.out.kept (HP.out.1.kt.low c2 (by have := HC2.out.lt; have := HC3.out; have := HCC.out; omega) HC2.out.lt (by have := HC3.out; have := HCC.out; omega))⟩
      have e : selwo_SC (pre ++ [x]) = selwo_SC pre ++ [x.a] := by simp [selwo_SC, hx]
      rw [e]
      exact HP.out.2
  case done =>
    rintro D W' hD ⟨⟨⟨v, hbx, hown⟩, hbel, hsz⟩, hc2⟩ hK
    obtain ⟨p2, e2, hv2⟩ := ownsRow_slice hown
    subst hv2
    have v0 := hbx.cell 0
    have v1 := hbx.cell 1
    have vl := hbx.lt
    have u0 := hc2.cell 0
    have u1 := hc2.cell 1
    have uf0 := hc2.frozen 0
    have uf1 := hc2.frozen 1
    have ul := hc2.lt
    simp at v0 v1 u0 u1
    have HBX := hid hbx
    have HUX := hid hc2
    have HOw := hid hown
    have HBel := hid hbel
    have HKD := hid hK
    clear hbx hc2 hown hbel hK
    go_wp2
    obtain ⟨VE, hVE⟩ : ∃ V, V = ((W'.setCell ⟨c2, 0, none⟩ (.slice p2 (selwo_SC XS).length e2)).setCell ⟨c2, 1, none⟩ (.func (.func 70) #[] #[])) := ⟨_, rfl⟩
    rw [← hVE]
    have hbt : But (fun k => k = c2) W' VE := by rw [hVE]; exact ((But.one W' c2).setAt 0 _).setAt 1 _
    have hlt2 : c2 < w1.heap.size := by have := HCC.out; omega
    have hKV : VE.heap[D]? = some (.deferred (some [])) := (hbt.block D (Array.getElem?_eq_some_iff.1 HKD.out).1 (by omega)).trans HKD.out
    have hRX : Box VE c2 #[.slice (ltOf p2 e2 (⟨#[]⟩ : ByteArray) (selwo_SC XS)).p (ltOf p2 e2 (⟨#[]⟩ : ByteArray) (selwo_SC XS)).n (ltOf p2 e2 (⟨#[]⟩ : ByteArray) (selwo_SC XS)).c, .func (.func 70) #[] #[]] 78 := by rw [hVE]; exact (HUX.out.set 0 _).set 1 _
    have hbD : But (fun k => k = D) VE (VE.putObj D (.deferred none)) := But.put VE D _
    have hRX2 := hRX.but hbD (by omega)
    have e0 := hRX2.cell 0
    have e1 := hRX2.cell 1
    simp only [List.getElem?_toArray, List.getElem?_cons_zero, List.getElem?_cons_succ] at e0 e1
    have hw1 := HBw.out.size
    have hall : But (fun k => k = c2 ∨ k = D) W' (VE.putObj D (.deferred none)) := ⟨hbD.os.trans hbt.os, hbD.tape.trans hbt.tape, hbD.output.trans hbt.output, Nat.le_trans hbt.size hbD.size, fun k hk hn => (hbD.block k (by have := hbt.size; omega) (fun e => hn (.inr e))).trans (hbt.block k hk (fun e => hn (.inl e)))⟩
    have hbelF : Below w.heap.size w (VE.putObj D (.deferred none)) := HBel.out.trans (hall.below HBel.out.size fun k hk e => by have := HC2.out; omega)
    refine ⟨by simp, .inl ⟨_, _, rfl, run_takeDeferred hKV, ?_⟩⟩
    refine ⟨.agg #[.slice (ltOf p2 e2 (⟨#[]⟩ : ByteArray) (selwo_SC XS)).p (ltOf p2 e2 (⟨#[]⟩ : ByteArray) (selwo_SC XS)).n (ltOf p2 e2 (⟨#[]⟩ : ByteArray) (selwo_SC XS)).c, .func (.func 70) #[] #[]], by simp [results, Try.results38, go_sem, e0, e1], ltOf p2 e2 (⟨#[]⟩ : ByteArray) (selwo_SC XS), rfl, ?_, ltOf_toL _ _ _ _, hbelF⟩
    have hlen := HLen.out
    have hle := selwo_SC_le XS
    refine own_lt (⟨#[]⟩ : ByteArray) (ownsRow_keep (own_low HOw.out (by omega)) fun k hk hl => hall.block k hl fun e => ?_) (fun k hk => .inr hk) (fun y hy => ?_) (by omega)
    · obtain ⟨cu, h1, h2⟩ := own_tag HOw.out hk
      rcases e with rfl | rfl
      · omega
      · rw [HKD.out] at h1; cases h1
    · have hS0 : ∀ {y : ByteArray}, elStr.In w S y → elStr.In (VE.putObj D (.deferred none)) (fun k => S k ∨ w.heap.size ≤ k) y := fun h => elStr.mono (elStr.kept h hbelF.size fun k _ hl => hbelF.block k hl) fun k hk _ => .inl hk
      refine hS0 ?_
      obtain ⟨x, hx, hxy⟩ := List.mem_map.1 hy
      rw [List.mem_filter] at hx
      rw [HXe.out] at hx
      have hm := mrg_mem _ _ _ _ _ _ _ _ hx.1
      obtain ⟨j, hj, e⟩ := LT.mem_toL (hm.1 (hm.2.2.resolve_right (by simpa using hx.2)))
      rw [← hxy, ← e]
      exact HA.out.each j hj
/-- what comes out of what was met -/
def selwo_CS (pre : List (Ev VT ByteArray)) : List VT := ((pre.filter fun x => !x.inB).map fun x => x.a)
theorem selwo_CS_le (pre : List (Ev VT ByteArray)) : (selwo_CS pre).length ≤ pre.length := by simp [selwo_CS, List.length_filter_le]
set_option maxRecDepth 60000 in
set_option maxHeartbeats 8000000 in
/-- wo -/
theorem wo_CS (w : World) (la : LT VT) (lb : LT ByteArray) (S : Nat → Prop) (ha : LT.In elCell w S la) (hb : LT.In elStr w S lb) (hS : ∀ k, S k → k < w.heap.size) (hn : la.n + lb.n ≤ 1000000) (XS : List (Ev VT ByteArray)) (hXS : XS = mrgF VT.text id zC (⟨#[]⟩ : ByteArray) (la.n + lb.n) la.toL lb.toL) :
    Calls Try.prog 41 #[.agg #[.slice la.p la.n la.c, .func (.func 60) #[] #[]], .agg #[.slice lb.p lb.n lb.c, .func (.func 70) #[] #[]]] w fun e w' => ∃ l : LT VT, e = .returned (.agg #[.slice l.p l.n l.c, .func (.func 60) #[] #[]]) ∧ LT.In elCell w' (fun k => S k ∨ w.heap.size ≤ k) l ∧ l.toL = ((XS.filter fun x => !x.inB).map fun x => x.a) ∧ Below w.heap.size w w' := by
  obtain ⟨W, hW⟩ : ∃ V, V = (((w.alloc (.cells #[.slice la.p la.n la.c, .func (.func 60) #[] #[]] 70)).alloc (.cells #[.slice lb.p lb.n lb.c, .func (.func 70) #[] #[]] 78)).alloc (.cells #[.slice none 0 0, .nilFunc] 70)).alloc (.cells #[.slice none 0 0, .func (.func 60) #[] #[]] 70) := ⟨_, rfl⟩
  have hB : Below w.heap.size w W := by rw [hW]; exact ((((Below.refl _ _).alloc (Nat.le_refl _) _).alloc (by simp) _).alloc (by simp; omega) _).alloc (by simp; omega) _
  have hWs : W.heap.size = w.heap.size + 4 := by rw [hW]; simp
  have hx0 : Box W w.heap.size #[.slice la.p la.n la.c, .func (.func 60) #[] #[]] 70 := by
    rw [hW]; exact (((Box.new w _ _).below ((Below.refl _ _).alloc (Nat.le_refl _) _)).below ((Below.refl _ _).alloc (Nat.le_refl _) _)).below ((Below.refl _ _).alloc (Nat.le_refl _) _)
  have hx1 : Box W (w.heap.size + 1) #[.slice lb.p lb.n lb.c, .func (.func 70) #[] #[]] 78 := by
    have h := Box.new (w.alloc (.cells #[.slice la.p la.n la.c, .func (.func 60) #[] #[]] 70)) #[.slice lb.p lb.n lb.c, .func (.func 70) #[] #[]] 78
    rw [show (w.alloc (.cells #[.slice la.p la.n la.c, .func (.func 60) #[] #[]] 70)).heap.size = w.heap.size + 1 by simp] at h
    rw [hW]; exact (h.below ((Below.refl _ _).alloc (Nat.le_refl _) _)).below ((Below.refl _ _).alloc (Nat.le_refl _) _)
  have hx2 : Box W (w.heap.size + 2) #[.slice none 0 0, .nilFunc] 70 := by
    have h := Box.new ((w.alloc (.cells #[.slice la.p la.n la.c, .func (.func 60) #[] #[]] 70)).alloc (.cells #[.slice lb.p lb.n lb.c, .func (.func 70) #[] #[]] 78)) #[.slice none 0 0, .nilFunc] 70
    rw [show ((w.alloc (.cells #[.slice la.p la.n la.c, .func (.func 60) #[] #[]] 70)).alloc (.cells #[.slice lb.p lb.n lb.c, .func (.func 70) #[] #[]] 78)).heap.size = w.heap.size + 2 by simp] at h
    rw [hW]; exact h.below ((Below.refl _ _).alloc (Nat.le_refl _) _)
  have hx3 : Box W (w.heap.size + 3) #[.slice none 0 0, .func (.func 60) #[] #[]] 70 := by
    have h := Box.new (((w.alloc (.cells #[.slice la.p la.n la.c, .func (.func 60) #[] #[]] 70)).alloc (.cells #[.slice lb.p lb.n lb.c, .func (.func 70) #[] #[]] 78)).alloc (.cells #[.slice none 0 0, .nilFunc] 70)) #[.slice none 0 0, .func (.func 60) #[] #[]] 70
    rw [show (((w.alloc (.cells #[.slice la.p la.n la.c, .func (.func 60) #[] #[]] 70)).alloc (.cells #[.slice lb.p lb.n lb.c, .func (.func 70) #[] #[]] 78)).alloc (.cells #[.slice none 0 0, .nilFunc] 70)).heap.size = w.heap.size + 3 by simp] at h
    rw [hW]; exact h
  have HB := hid hB
  have HW := hid hW
  have HWs := hid hWs
  have HX0 := hid hx0
  have HX1 := hid hx1
  have HX2 := hid hx2
  have HX3 := hid hx3
  have HA := hid ha
  have HLb := hid hb
  have HS := hid hS
  have a0 := hx0.cell 0
  have a1 := hx0.cell 1
  have al := hx0.lt
  have b0' := hx1.cell 0
  have b1 := hx1.cell 1
  have bl := hx1.lt
  simp at a0 a1 b0' b1
  clear hB hW hWs hx0 hx1 hx2 hx3 ha hb hS
  refine (callsIn_wide (n := 0)).1 ?_
  refine callsIn_of_wp_marks Try.func41 rfl trivial ?_ rfl
  simp only [Try.ntmps41, List.size_toArray, List.length_cons, List.length_nil, Nat.reduceAdd, Nat.reduceSub, Array.replicate_succ, Array.replicate_zero, List.push_toArray, List.append_toArray, List.nil_append, List.cons_append]
  refine wpIn_wide.2 ?_
  go_upto_region 2 with fail
  rw [← HW.out]
  obtain ⟨c3, hc3⟩ : ∃ x, x = w.heap.size + 1 + 1 + 1 := ⟨_, rfl⟩
  rw [← hc3]
  obtain ⟨c2, hc2⟩ : ∃ x, x = w.heap.size + 1 + 1 := ⟨_, rfl⟩
  rw [← hc2]
  have HC3 : Hid (c3 = w.heap.size + 3) := hc3
  have HC2 : Hid (c2 = w.heap.size + 2) := hc2
  clear hc3 hc2
  go_wp2_with fail
  refine (mrg_CS la lb W).mono ?_
  rintro e w1 ⟨rfl, hw1⟩
  have hB1 : Below W.heap.size W w1 := by rw [hw1]; exact ((Below.refl _ _).alloc (Nat.le_refl _) _).alloc (by simp) _
  have hs1 : w1.heap.size = W.heap.size + 2 := by rw [hw1]; simp
  have hy0 : Box w1 W.heap.size #[.slice la.p la.n la.c, .func (.func 60) #[] #[]] 70 := by rw [hw1]; exact (Box.new W _ _).below ((Below.refl _ _).alloc (Nat.le_refl _) _)
  have hy1 : Box w1 (W.heap.size + 1) #[.slice lb.p lb.n lb.c, .func (.func 70) #[] #[]] 78 := by
    have h := Box.new (W.alloc (.cells #[.slice la.p la.n la.c, .func (.func 60) #[] #[]] 70)) #[.slice lb.p lb.n lb.c, .func (.func 70) #[] #[]] 78
    rw [show (W.alloc (.cells #[.slice la.p la.n la.c, .func (.func 60) #[] #[]] 70)).heap.size = W.heap.size + 1 by simp] at h
    rw [hw1]; exact h
  have hBw : Below w.heap.size w w1 := HB.out.trans (hB1.mono HB.out.size)
  have hb3 : Box w1 c3 #[.slice none 0 0, .func (.func 60) #[] #[]] 70 := by rw [HC3.out]; exact HX3.out.below hB1
  have hb2 : Box w1 c2 #[.slice none 0 0, .nilFunc] 70 := by rw [HC2.out]; exact HX2.out.below hB1
  have hc3w : c3 < w1.heap.size := hb3.lt
  have hwc3 : w.heap.size ≤ c3 := by rw [HC3.out]; omega
  have hseq : SeqT Try.prog 87 #[.pointer (some ⟨W.heap.size, 0, none⟩), .pointer (some ⟨W.heap.size + 1, 0, none⟩)] encCS XS TCS c3 w1 := by
    rw [hXS]
    exact it_CS w1 W.heap.size (W.heap.size + 1) c3 la lb S hy0 hy1 (HA.out.below hBw) (HLb.out.below hBw) (fun k hk => by have := HS.out k hk; have := hBw.size; have := HC3.out; omega)
  have HSeq := hid hseq
  have HBw := hid hBw
  have HBB2 := hid hb2
  have HRow : Hid (Row elCell w w1.heap.size c3 70 60 w1 []) := ⟨⟨.slice none 0 0, hb3, rfl, .inl ⟨rfl, rfl⟩⟩, hBw, Nat.le_refl _⟩
  have HLen : Hid (XS.length ≤ 1000000) := by show _ ≤ _; rw [hXS]; have := mrg_len VT.text id zC (⟨#[]⟩ : ByteArray) (la.n + lb.n) la.toL lb.toL; omega
  have HXe := hid hXS
  clear hXS hw1 hB1 hs1 hy0 hy1 hBw hb3 hb2 hseq a0 a1 al b0' b1 bl
  go_wp2_with fail
  refine (wpIn_wide (n := 0)).1 ?_
  obtain ⟨i0, Kd⟩ := kindC
  have HAb : Hid (Ab w1.heap.size (okTN TCS) (fun pre W' => Row elCell w w1.heap.size c3 70 60 W' (selwo_CS pre) ∧ Box W' c2 #[.slice none 0 0, .nilFunc] 70)) := Ab.and (Row.ab (selwo_CS) (by unfold TCS; decide) hc3w (by have := HBw.out.size; omega)) (fun s W1 W2 X h1 hbt hx => h1.but hbt fun e => by have := (hx c2 h1.lt e).1; have := HBB2.out.lt; omega)
  have HCC : Hid (c2 + 1 = c3) := by have := HC2.out; have := HC3.out; show _ = _; omega
  refine range_law (gf := 87) (lb := #[.pointer (some ⟨W.heap.size, 0, none⟩), .pointer (some ⟨W.heap.size + 1, 0, none⟩)]) rfl (enters_of Try.func87 (by kernel_rfl) rfl) (encs := encCS) (fun _ => rfl) (XS := XS) (T := TCS) (b0 := c3) HSeq.out
    (fun pre W' => Row elCell w w1.heap.size c3 70 60 W' (selwo_CS pre) ∧ Box W' c2 #[.slice none 0 0, .nilFunc] 70)
    ?abs ⟨HRow.out, HBB2.out⟩
    (fun x a' W' => ∃ q, Box W' q #[.string x.a.text, .slice x.a.p x.a.n x.a.c, .string x.b, .bool x.inA, .bool x.inB] 119 ∧ a' = { tmps := #[.agg #[.slice la.p la.n la.c, .func (.func 60) #[] #[]], .agg #[.slice lb.p lb.n lb.c, .func (.func 70) #[] #[]], .pointer (some ⟨w.heap.size, 0, none⟩), .pointer (some ⟨w.heap.size + 1, 0, none⟩), .pointer (some ⟨c2, 0, none⟩), .pointer (some ⟨c3, 0, none⟩), undef, .pointer (some ⟨q, 0, none⟩), .pointer (some ⟨w.heap.size, 1, none⟩), .func (.func 60) #[] #[], .agg #[.slice none 0 0, .func (.func 60) #[] #[]], .agg #[.slice la.p la.n la.c, .func (.func 60) #[] #[]], .agg #[.slice lb.p lb.n lb.c, .func (.func 70) #[] #[]], .func (.func 87) #[] #[.pointer (some ⟨W.heap.size, 0, none⟩), .pointer (some ⟨W.heap.size + 1, 0, none⟩)], .string x.key, .agg #[.string x.a.text, .slice x.a.p x.a.n x.a.c, .string x.b, .bool x.inA, .bool x.inB], undef, undef, undef, undef, undef, undef, undef, undef, undef, undef, undef], defers := [] })
    ?abx ?assign ?body ?done
  case abs => exact HAb.out
  case abx =>
    rintro ⟨x, a'⟩ W' W'' X ⟨q, hq, he⟩ hbt hx
    exact ⟨q, hq.but hbt fun e => by
      obtain ⟨_, o, h1, h2⟩ := hx q hq.lt e
      rw [show W'.heap[q]? = _ from hq] at h1
      cases h1
      simp [okN, Obj.isCells] at h2, he⟩
  case assign =>
    intro l pre x W' K hI hK
    have hnb : Below W'.heap.size W' (W'.alloc (.cells #[.string x.a.text, .slice x.a.p x.a.n x.a.c, .string x.b, .bool x.inA, .bool x.inB] 119)) := (Below.refl _ _).alloc (Nat.le_refl _) _
    have HK := hid hK
    have HI := hid hI
    clear hK hI
    unfold encCS
    gi_wp2
    exact HK.out _ _ (KeepB.below hnb) (HAb.out.grow HI.out hnb) ⟨W'.heap.size, Box.new _ _ _, rfl⟩
  case body =>
    rintro l pre x a' W' ⟨⟨⟨v, hbx, hown⟩, hbel, hsz⟩, hc2⟩ ⟨q, hq, rfl⟩ hpre
    have hlen : (selwo_CS pre).length < 1000000 := by
      have h1 := hpre.length_le
      have h2 := HLen.out
      have h3 := selwo_CS_le pre
      simp only [List.length_append, List.length_singleton] at h1
      omega
    have v0 := hbx.cell 0
    have vf := hbx.frozen 0
    have vl := hbx.lt
    simp at v0
    have q0 := hq.cell 0
    have q1 := hq.cell 1
    have q2 := hq.cell 2
    have q3 := hq.cell 3
    have q4 := hq.cell 4
    have ql := hq.lt
    simp at q0 q1 q2 q3 q4
    have HBX := hid hbx
    have HC2 := hid hc2
    have HBel := hid hbel
    clear hbx hc2 hq hbel hpre
    cases hx : x.inB with
    | true =>
      rw [hx] at q4
      gi_wp2
      refine ⟨KeepB.below (Below.refl _ _), ?_, HC2.out⟩
      have e : selwo_CS (pre ++ [x]) = selwo_CS pre := by simp [selwo_CS, hx]
      rw [e]
      exact ⟨⟨v, HBX.out, hown⟩, HBel.out, hsz⟩
    | false =>
      rw [hx] at q4
      have hnews : ∀ j u', (elCell.cells x.a)[j]? = some u' → (W'.alloc (.cells #[.string x.a.text, .slice x.a.p x.a.n x.a.c] 62)).cell? ((⟨W'.heap.size, 0, none⟩ : Addr).add j) = some u' := fun j u' hu => by
        rw [Go.WideShapes.add_plain, (Box.new W' #[.string x.a.text, .slice x.a.p x.a.n x.a.c] 62).cell]
        rw [show 0 + j = j by omega]
        simpa [elCell, VT.two] using hu
      gi_wp2_with (gi_at_builtin; refine wpListIn_append_own _ rfl (.tmp 20) (.tmp 23) 22 rfl w1.heap.size 62 i0 _ 2 40 Kd.ht Kd.hi Kd.hz Kd.hsize Kd.hby Kd.hzs Kd.hsz v (selwo_CS pre).length _ rfl (hown.alloc _) ⟨W'.heap.size, 0, none⟩ 1 1 (elCell.cells x.a) rfl rfl hnews (elCell.one _) (by unfold maxLen; omega) (by omega) (by simp; omega) ?_; intro v' w2 ho2 hg2 _; obtain ⟨p2, e2, hv2⟩ := ownsRow_slice ho2; rw [hv2] at ho2 ⊢; clear hv2; have hP := Row.push (w := w) (T := TCS) (x := x.a) HBX.out hown HBel.out hsz (by unfold TCS; decide) hc3w hwc3 ho2 hg2; have hbk : Box w2 c3 #[v, .func (.func 60) #[] #[]] 70 := row_box HBX.out hown hc3w hg2; have z0 := hbk.cell 0; have zf := hbk.frozen 0; have zl := hbk.lt; simp at z0; have HP := hid hP; clear hP hbk ho2 hg2 hnews hown)
      refine ⟨HP.out.1, ?_, HC2.out.kept (HP.out.1.kt.low c2 (by have := HC2.out.lt; have := HC3.out; have := HCC.out; omega) HC2.out.lt (by have := HC3.out; have := HCC.out; omega))⟩
      have e : selwo_CS (pre ++ [x]) = selwo_CS pre ++ [x.a] := by simp [selwo_CS, hx]
      rw [e]
      exact HP.out.2
  case done =>
    rintro D W' hD ⟨⟨⟨v, hbx, hown⟩, hbel, hsz⟩, hc2⟩ hK
    obtain ⟨p2, e2, hv2⟩ := ownsRow_slice hown
    subst hv2
    have v0 := hbx.cell 0
    have v1 := hbx.cell 1
    have vl := hbx.lt
    have u0 := hc2.cell 0
    have u1 := hc2.cell 1
    have uf0 := hc2.frozen 0
    have uf1 := hc2.frozen 1
    have ul := hc2.lt
    simp at v0 v1 u0 u1
    have HBX := hid hbx
    have HUX := hid hc2
    have HOw := hid hown
    have HBel := hid hbel
    have HKD := hid hK
    clear hbx hc2 hown hbel hK
    go_wp2
    obtain ⟨VE, hVE⟩ : ∃ V, V = ((W'.setCell ⟨c2, 0, none⟩ (.slice p2 (selwo_CS XS).length e2)).setCell ⟨c2, 1, none⟩ (.func (.func 60) #[] #[])) := ⟨_, rfl⟩
    rw [← hVE]
    have hbt : But (fun k => k = c2) W' VE := by rw [hVE]; exact ((But.one W' c2).setAt 0 _).setAt 1 _
    have hlt2 : c2 < w1.heap.size := by have := HCC.out; omega
    have hKV : VE.heap[D]? = some (.deferred (some [])) := (hbt.block D (Array.getElem?_eq_some_iff.1 HKD.out).1 (by omega)).trans HKD.out
    have hRX : Box VE c2 #[.slice (ltOf p2 e2 zC (selwo_CS XS)).p (ltOf p2 e2 zC (selwo_CS XS)).n (ltOf p2 e2 zC (selwo_CS XS)).c, .func (.func 60) #[] #[]] 70 := by rw [hVE]; exact (HUX.out.set 0 _).set 1 _
    have hbD : But (fun k => k = D) VE (VE.putObj D (.deferred none)) := But.put VE D _
    have hRX2 := hRX.but hbD (by omega)
    have e0 := hRX2.cell 0
    have e1 := hRX2.cell 1
    simp only [List.getElem?_toArray, List.getElem?_cons_zero, List.getElem?_cons_succ] at e0 e1
    have hw1 := HBw.out.size
    have hall : But (fun k => k = c2 ∨ k = D) W' (VE.putObj D (.deferred none)) := ⟨hbD.os.trans hbt.os, hbD.tape.trans hbt.tape, hbD.output.trans hbt.output, Nat.le_trans hbt.size hbD.size, fun k hk hn => (hbD.block k (by have := hbt.size; omega) (fun e => hn (.inr e))).trans (hbt.block k hk (fun e => hn (.inl e)))⟩
    have hbelF : Below w.heap.size w (VE.putObj D (.deferred none)) := HBel.out.trans (hall.below HBel.out.size fun k hk e => by have := HC2.out; omega)
    refine ⟨by simp, .inl ⟨_, _, rfl, run_takeDeferred hKV, ?_⟩⟩
    refine ⟨.agg #[.slice (ltOf p2 e2 zC (selwo_CS XS)).p (ltOf p2 e2 zC (selwo_CS XS)).n (ltOf p2 e2 zC (selwo_CS XS)).c, .func (.func 60) #[] #[]], by simp [results, Try.results41, go_sem, e0, e1], ltOf p2 e2 zC (selwo_CS XS), rfl, ?_, ltOf_toL _ _ _ _, hbelF⟩
    have hlen := HLen.out
    have hle := selwo_CS_le XS
    refine own_lt zC (ownsRow_keep (own_low HOw.out (by omega)) fun k hk hl => hall.block k hl fun e => ?_) (fun k hk => .inr hk) (fun y hy => ?_) (by omega)
    · obtain ⟨cu, h1, h2⟩ := own_tag HOw.out hk
      rcases e with rfl | rfl
      · omega
      · rw [HKD.out] at h1; cases h1
    · have hS0 : ∀ {y : VT}, elCell.In w S y → elCell.In (VE.putObj D (.deferred none)) (fun k => S k ∨ w.heap.size ≤ k) y := fun h => elCell.mono (elCell.kept h hbelF.size fun k _ hl => hbelF.block k hl) fun k hk _ => .inl hk
      refine hS0 ?_
      obtain ⟨x, hx, hxy⟩ := List.mem_map.1 hy
      rw [List.mem_filter] at hx
      rw [HXe.out] at hx
      have hm := mrg_mem _ _ _ _ _ _ _ _ hx.1
      obtain ⟨j, hj, e⟩ := LT.mem_toL (hm.1 (hm.2.2.resolve_right (by simpa using hx.2)))
      rw [← hxy, ← e]
      exact HA.out.each j hj
/-- what comes out of what was met -/
def selwo_SS (pre : List (Ev ByteArray ByteArray)) : List ByteArray := ((pre.filter fun x => !x.inB).map fun x => x.a)
theorem selwo_SS_le (pre : List (Ev ByteArray ByteArray)) : (selwo_SS pre).length ≤ pre.length := by simp [selwo_SS, List.length_filter_le]
set_option maxRecDepth 60000 in
set_option maxHeartbeats 8000000 in
/-- wo -/
theorem wo_SS (w : World) (la : LT ByteArray) (lb : LT ByteArray) (S : Nat → Prop) (ha : LT.In elStr w S la) (hb : LT.In elStr w S lb) (hS : ∀ k, S k → k < w.heap.size) (hn : la.n + lb.n ≤ 1000000) (XS : List (Ev ByteArray ByteArray)) (hXS : XS = mrgF id id (⟨#[]⟩ : ByteArray) (⟨#[]⟩ : ByteArray) (la.n + lb.n) la.toL lb.toL) :
    Calls Try.prog 47 #[.agg #[.slice la.p la.n la.c, .func (.func 70) #[] #[]], .agg #[.slice lb.p lb.n lb.c, .func (.func 70) #[] #[]]] w fun e w' => ∃ l : LT ByteArray, e = .returned (.agg #[.slice l.p l.n l.c, .func (.func 70) #[] #[]]) ∧ LT.In elStr w' (fun k => S k ∨ w.heap.size ≤ k) l ∧ l.toL = ((XS.filter fun x => !x.inB).map fun x => x.a) ∧ Below w.heap.size w w' := by
  obtain ⟨W, hW⟩ : ∃ V, V = (((w.alloc (.cells #[.slice la.p la.n la.c, .func (.func 70) #[] #[]] 78)).alloc (.cells #[.slice lb.p lb.n lb.c, .func (.func 70) #[] #[]] 78)).alloc (.cells #[.slice none 0 0, .nilFunc] 78)).alloc (.cells #[.slice none 0 0, .func (.func 70) #[] #[]] 78) := ⟨_, rfl⟩
  have hB : Below w.heap.size w W := by rw [hW]; exact ((((Below.refl _ _).alloc (Nat.le_refl _) _).alloc (by simp) _).alloc (by simp; omega) _).alloc (by simp; omega) _
  have hWs : W.heap.size = w.heap.size + 4 := by rw [hW]; simp
  have hx0 : Box W w.heap.size #[.slice la.p la.n la.c, .func (.func 70) #[] #[]] 78 := by
    rw [hW]; exact (((Box.new w _ _).below ((Below.refl _ _).alloc (Nat.le_refl _) _)).below ((Below.refl _ _).alloc (Nat.le_refl _) _)).below ((Below.refl _ _).alloc (Nat.le_refl _) _)
  have hx1 : Box W (w.heap.size + 1) #[.slice lb.p lb.n lb.c, .func (.func 70) #[] #[]] 78 := by
    have h := Box.new (w.alloc (.cells #[.slice la.p la.n la.c, .func (.func 70) #[] #[]] 78)) #[.slice lb.p lb.n lb.c, .func (.func 70) #[] #[]] 78
    rw [show (w.alloc (.cells #[.slice la.p la.n la.c, .func (.func 70) #[] #[]] 78)).heap.size = w.heap.size + 1 by simp] at h
    rw [hW]; exact (h.below ((Below.refl _ _).alloc (Nat.le_refl _) _)).below ((Below.refl _ _).alloc (Nat.le_refl _) _)
  have hx2 : Box W (w.heap.size + 2) #[.slice none 0 0, .nilFunc] 78 := by
    have h := Box.new ((w.alloc (.cells #[.slice la.p la.n la.c, .func (.func 70) #[] #[]] 78)).alloc (.cells #[.slice lb.p lb.n lb.c, .func (.func 70) #[] #[]] 78)) #[.slice none 0 0, .nilFunc] 78
    rw [show ((w.alloc (.cells #[.slice la.p la.n la.c, .func (.func 70) #[] #[]] 78)).alloc (.cells #[.slice lb.p lb.n lb.c, .func (.func 70) #[] #[]] 78)).heap.size = w.heap.size + 2 by simp] at h
    rw [hW]; exact h.below ((Below.refl _ _).alloc (Nat.le_refl _) _)
  have hx3 : Box W (w.heap.size + 3) #[.slice none 0 0, .func (.func 70) #[] #[]] 78 := by
    have h := Box.new (((w.alloc (.cells #[.slice la.p la.n la.c, .func (.func 70) #[] #[]] 78)).alloc (.cells #[.slice lb.p lb.n lb.c, .func (.func 70) #[] #[]] 78)).alloc (.cells #[.slice none 0 0, .nilFunc] 78)) #[.slice none 0 0, .func (.func 70) #[] #[]] 78
    rw [show (((w.alloc (.cells #[.slice la.p la.n la.c, .func (.func 70) #[] #[]] 78)).alloc (.cells #[.slice lb.p lb.n lb.c, .func (.func 70) #[] #[]] 78)).alloc (.cells #[.slice none 0 0, .nilFunc] 78)).heap.size = w.heap.size + 3 by simp] at h
    rw [hW]; exact h
  have HB := hid hB
  have HW := hid hW
  have HWs := hid hWs
  have HX0 := hid hx0
  have HX1 := hid hx1
  have HX2 := hid hx2
  have HX3 := hid hx3
  have HA := hid ha
  have HLb := hid hb
  have HS := hid hS
  have a0 := hx0.cell 0
  have a1 := hx0.cell 1
  have al := hx0.lt
  have b0' := hx1.cell 0
  have b1 := hx1.cell 1
  have bl := hx1.lt
  simp at a0 a1 b0' b1
  clear hB hW hWs hx0 hx1 hx2 hx3 ha hb hS
  refine (callsIn_wide (n := 0)).1 ?_
  refine callsIn_of_wp_marks Try.func47 rfl trivial ?_ rfl
  simp only [Try.ntmps47, List.size_toArray, List.length_cons, List.length_nil, Nat.reduceAdd, Nat.reduceSub, Array.replicate_succ, Array.replicate_zero, List.push_toArray, List.append_toArray, List.nil_append, List.cons_append]
  refine wpIn_wide.2 ?_
  go_upto_region 2 with fail
  rw [← HW.out]
  obtain ⟨c3, hc3⟩ : ∃ x, x = w.heap.size + 1 + 1 + 1 := ⟨_, rfl⟩
  rw [← hc3]
  obtain ⟨c2, hc2⟩ : ∃ x, x = w.heap.size + 1 + 1 := ⟨_, rfl⟩
  rw [← hc2]
  have HC3 : Hid (c3 = w.heap.size + 3) := hc3
  have HC2 : Hid (c2 = w.heap.size + 2) := hc2
  clear hc3 hc2
  go_wp2_with fail
  refine (mrg_SS la lb W).mono ?_
  rintro e w1 ⟨rfl, hw1⟩
  have hB1 : Below W.heap.size W w1 := by rw [hw1]; exact ((Below.refl _ _).alloc (Nat.le_refl _) _).alloc (by simp) _
  have hs1 : w1.heap.size = W.heap.size + 2 := by rw [hw1]; simp
  have hy0 : Box w1 W.heap.size #[.slice la.p la.n la.c, .func (.func 70) #[] #[]] 78 := by rw [hw1]; exact (Box.new W _ _).below ((Below.refl _ _).alloc (Nat.le_refl _) _)
  have hy1 : Box w1 (W.heap.size + 1) #[.slice lb.p lb.n lb.c, .func (.func 70) #[] #[]] 78 := by
    have h := Box.new (W.alloc (.cells #[.slice la.p la.n la.c, .func (.func 70) #[] #[]] 78)) #[.slice lb.p lb.n lb.c, .func (.func 70) #[] #[]] 78
    rw [show (W.alloc (.cells #[.slice la.p la.n la.c, .func (.func 70) #[] #[]] 78)).heap.size = W.heap.size + 1 by simp] at h
    rw [hw1]; exact h
  have hBw : Below w.heap.size w w1 := HB.out.trans (hB1.mono HB.out.size)
  have hb3 : Box w1 c3 #[.slice none 0 0, .func (.func 70) #[] #[]] 78 := by rw [HC3.out]; exact HX3.out.below hB1
  have hb2 : Box w1 c2 #[.slice none 0 0, .nilFunc] 78 := by rw [HC2.out]; exact HX2.out.below hB1
  have hc3w : c3 < w1.heap.size := hb3.lt
  have hwc3 : w.heap.size ≤ c3 := by rw [HC3.out]; omega
  have hseq : SeqT Try.prog 90 #[.pointer (some ⟨W.heap.size, 0, none⟩), .pointer (some ⟨W.heap.size + 1, 0, none⟩)] encSS XS TSS c3 w1 := by
    rw [hXS]
    exact it_SS w1 W.heap.size (W.heap.size + 1) c3 la lb S hy0 hy1 (HA.out.below hBw) (HLb.out.below hBw) (fun k hk => by have := HS.out k hk; have := hBw.size; have := HC3.out; omega)
  have HSeq := hid hseq
  have HBw := hid hBw
  have HBB2 := hid hb2
  have HRow : Hid (Row elStr w w1.heap.size c3 78 70 w1 []) := ⟨⟨.slice none 0 0, hb3, rfl, .inl ⟨rfl, rfl⟩⟩, hBw, Nat.le_refl _⟩
  have HLen : Hid (XS.length ≤ 1000000) := by show _ ≤ _; rw [hXS]; have := mrg_len id id (⟨#[]⟩ : ByteArray) (⟨#[]⟩ : ByteArray) (la.n + lb.n) la.toL lb.toL; omega
  have HXe := hid hXS
  clear hXS hw1 hB1 hs1 hy0 hy1 hBw hb3 hb2 hseq a0 a1 al b0' b1 bl
  go_wp2_with fail
  refine (wpIn_wide (n := 0)).1 ?_
  obtain ⟨i0, Kd⟩ := kindS
  have HAb : Hid (Ab w1.heap.size (okTN TSS) (fun pre W' => Row elStr w w1.heap.size c3 78 70 W' (selwo_SS pre) ∧ Box W' c2 #[.slice none 0 0, .nilFunc] 78)) := Ab.and (Row.ab (selwo_SS) (by unfold TSS; decide) hc3w (by have := HBw.out.size; omega)) (fun s W1 W2 X h1 hbt hx => h1.but hbt fun e => by have := (hx c2 h1.lt e).1; have := HBB2.out.lt; omega)
  have HCC : Hid (c2 + 1 = c3) := by have := HC2.out; have := HC3.out; show _ = _; omega
  refine range_law (gf := 90) (lb := #[.pointer (some ⟨W.heap.size, 0, none⟩), .pointer (some ⟨W.heap.size + 1, 0, none⟩)]) rfl (enters_of Try.func90 (by kernel_rfl) rfl) (encs := encSS) (fun _ => rfl) (XS := XS) (T := TSS) (b0 := c3) HSeq.out
    (fun pre W' => Row elStr w w1.heap.size c3 78 70 W' (selwo_SS pre) ∧ Box W' c2 #[.slice none 0 0, .nilFunc] 78)
    ?abs ⟨HRow.out, HBB2.out⟩
    (fun x a' W' => ∃ q, Box W' q #[.string x.a, .string x.b, .bool x.inA, .bool x.inB] 125 ∧ a' = { tmps := #[.agg #[.slice la.p la.n la.c, .func (.func 70) #[] #[]], .agg #[.slice lb.p lb.n lb.c, .func (.func 70) #[] #[]], .pointer (some ⟨w.heap.size, 0, none⟩), .pointer (some ⟨w.heap.size + 1, 0, none⟩), .pointer (some ⟨c2, 0, none⟩), .pointer (some ⟨c3, 0, none⟩), undef, .pointer (some ⟨q, 0, none⟩), .pointer (some ⟨w.heap.size, 1, none⟩), .func (.func 70) #[] #[], .agg #[.slice none 0 0, .func (.func 70) #[] #[]], .agg #[.slice la.p la.n la.c, .func (.func 70) #[] #[]], .agg #[.slice lb.p lb.n lb.c, .func (.func 70) #[] #[]], .func (.func 90) #[] #[.pointer (some ⟨W.heap.size, 0, none⟩), .pointer (some ⟨W.heap.size + 1, 0, none⟩)], .string x.key, .agg #[.string x.a, .string x.b, .bool x.inA, .bool x.inB], undef, undef, undef, undef, undef, undef, undef, undef, undef, undef, undef], defers := [] })
    ?abx ?assign ?body ?done
  case abs => exact HAb.out
  case abx =>
    rintro ⟨x, a'⟩ W' W'' X ⟨q, hq, he⟩ hbt hx
    exact ⟨q, hq.but hbt fun e => by
      obtain ⟨_, o, h1, h2⟩ := hx q hq.lt e
      rw [show W'.heap[q]? = _ from hq] at h1
      cases h1
      simp [okN, Obj.isCells] at h2, he⟩
  case assign =>
    intro l pre x W' K hI hK
    have hnb : Below W'.heap.size W' (W'.alloc (.cells #[.string x.a, .string x.b, .bool x.inA, .bool x.inB] 125)) := (Below.refl _ _).alloc (Nat.le_refl _) _
    have HK := hid hK
    have HI := hid hI
    clear hK hI
    unfold encSS
    gi_wp2
    exact HK.out _ _ (KeepB.below hnb) (HAb.out.grow HI.out hnb) ⟨W'.heap.size, Box.new _ _ _, rfl⟩
  case body =>
    rintro l pre x a' W' ⟨⟨⟨v, hbx, hown⟩, hbel, hsz⟩, hc2⟩ ⟨q, hq, rfl⟩ hpre
    have hlen : (selwo_SS pre).length < 1000000 := by
      have h1 := hpre.length_le
      have h2 := HLen.out
      have h3 := selwo_SS_le pre
      simp only [List.length_append, List.length_singleton] at h1
      omega
    have v0 := hbx.cell 0
    have vf := hbx.frozen 0
    have vl := hbx.lt
    simp at v0
    have q0 := hq.cell 0
    have q1 := hq.cell 1
    have q2 := hq.cell 2
    have q3 := hq.cell 3
    have ql := hq.lt
    simp at q0 q1 q2 q3
    have HBX := hid hbx
    have HC2 := hid hc2
    have HBel := hid hbel
    clear hbx hc2 hq hbel hpre
    cases hx : x.inB with
    | true =>
      rw [hx] at q3
      gi_wp2
      refine ⟨KeepB.below (Below.refl _ _), ?_, HC2.out⟩
      have e : selwo_SS (pre ++ [x]) = selwo_SS pre := by simp [selwo_SS, hx]
      rw [e]
      exact ⟨⟨v, HBX.out, hown⟩, HBel.out, hsz⟩
    | false =>
      rw [hx] at q3
      have hnews : ∀ j u', (elStr.cells x.a)[j]? = some u' → (W'.alloc (.cells #[.string x.a] 9)).cell? ((⟨W'.heap.size, 0, none⟩ : Addr).add j) = some u' := fun j u' hu => by
        rw [Go.WideShapes.add_plain, (Box.new W' #[.string x.a] 9).cell]
        rw [show 0 + j = j by omega]
        simpa [elStr] using hu
      gi_wp2_with (gi_at_builtin; refine wpListIn_append_own _ rfl (.tmp 20) (.tmp 23) 28 rfl w1.heap.size 9 i0 _ 1 16 Kd.ht Kd.hi Kd.hz Kd.hsize Kd.hby Kd.hzs Kd.hsz v (selwo_SS pre).length _ rfl (hown.alloc _) ⟨W'.heap.size, 0, none⟩ 1 1 (elStr.cells x.a) rfl rfl hnews (elStr.one _) (by unfold maxLen; omega) (by omega) (by simp; omega) ?_; intro v' w2 ho2 hg2 _; obtain ⟨p2, e2, hv2⟩ := ownsRow_slice ho2; rw [hv2] at ho2 ⊢; clear hv2; have hP := Row.push (w := w) (T := TSS) (x := x.a) HBX.out hown HBel.out hsz (by unfold TSS; decide) hc3w hwc3 ho2 hg2; have hbk : Box w2 c3 #[v, .func (.func 70) #[] #[]] 78 := row_box HBX.out hown hc3w hg2; have z0 := hbk.cell 0; have zf := hbk.frozen 0; have zl := hbk.lt; simp at z0; have HP := hid hP; clear hP hbk ho2 hg2 hnews hown)
      refine ⟨HP.out.1, ?_, HC2.out.kept (HP.out.1.kt.low c2 (by have := HC2.out.lt; have := HC3.out; have := HCC.out; omega) HC2.out.lt (by have := HC3.out; have := HCC.out; omega))⟩
      have e : selwo_SS (pre ++ [x]) = selwo_SS pre ++ [x.a] := by simp [selwo_SS, hx]
      rw [e]
      exact HP.out.2
  case done =>
    rintro D W' hD ⟨⟨⟨v, hbx, hown⟩, hbel, hsz⟩, hc2⟩ hK
    obtain ⟨p2, e2, hv2⟩ := ownsRow_slice hown
    subst hv2
    have v0 := hbx.cell 0
    have v1 := hbx.cell 1
    have vl := hbx.lt
    have u0 := hc2.cell 0
    have u1 := hc2.cell 1
    have uf0 := hc2.frozen 0
    have uf1 := hc2.frozen 1
    have ul := hc2.lt
    simp at v0 v1 u0 u1
    have HBX := hid hbx
    have HUX := hid hc2
    have HOw := hid hown
    have HBel := hid hbel
    have HKD := hid hK
    clear hbx hc2 hown hbel hK
    go_wp2
    obtain ⟨VE, hVE⟩ : ∃ V, V = ((W'.setCell ⟨c2, 0, none⟩ (.slice p2 (selwo_SS XS).length e2)).setCell ⟨c2, 1, none⟩ (.func (.func 70) #[] #[])) := ⟨_, rfl⟩
    rw [← hVE]
    have hbt : But (fun k => k = c2) W' VE := by rw [hVE]; exact ((But.one W' c2).setAt 0 _).setAt 1 _
    have hlt2 : c2 < w1.heap.size := by have := HCC.out; omega
    have hKV : VE.heap[D]? = some (.deferred (some [])) := (hbt.block D (Array.getElem?_eq_some_iff.1 HKD.out).1 (by omega)).trans HKD.out
    have hRX : Box VE c2 #[.slice (ltOf p2 e2 (⟨#[]⟩ : ByteArray) (selwo_SS XS)).p (ltOf p2 e2 (⟨#[]⟩ : ByteArray) (selwo_SS XS)).n (ltOf p2 e2 (⟨#[]⟩ : ByteArray) (selwo_SS XS)).c, .func (.func 70) #[] #[]] 78 := by rw [hVE]; exact (HUX.out.set 0 _).set 1 _
    have hbD : But (fun k => k = D) VE (VE.putObj D (.deferred none)) := But.put VE D _
    have hRX2 := hRX.but hbD (by omega)
    have e0 := hRX2.cell 0
    have e1 := hRX2.cell 1
    simp only [List.getElem?_toArray, List.getElem?_cons_zero, List.getElem?_cons_succ] at e0 e1
    have hw1 := HBw.out.size
    have hall : But (fun k => k = c2 ∨ k = D) W' (VE.putObj D (.deferred none)) := ⟨hbD.os.trans hbt.os, hbD.tape.trans hbt.tape, hbD.output.trans hbt.output, Nat.le_trans hbt.size hbD.size, fun k hk hn => (hbD.block k (by have := hbt.size; omega) (fun e => hn (.inr e))).trans (hbt.block k hk (fun e => hn (.inl e)))⟩
    have hbelF : Below w.heap.size w (VE.putObj D (.deferred none)) := HBel.out.trans (hall.below HBel.out.size fun k hk e => by have := HC2.out; omega)
    refine ⟨by simp, .inl ⟨_, _, rfl, run_takeDeferred hKV, ?_⟩⟩
    refine ⟨.agg #[.slice (ltOf p2 e2 (⟨#[]⟩ : ByteArray) (selwo_SS XS)).p (ltOf p2 e2 (⟨#[]⟩ : ByteArray) (selwo_SS XS)).n (ltOf p2 e2 (⟨#[]⟩ : ByteArray) (selwo_SS XS)).c, .func (.func 70) #[] #[]], by simp [results, Try.results47, go_sem, e0, e1], ltOf p2 e2 (⟨#[]⟩ : ByteArray) (selwo_SS XS), rfl, ?_, ltOf_toL _ _ _ _, hbelF⟩
    have hlen := HLen.out
    have hle := selwo_SS_le XS
    refine own_lt (⟨#[]⟩ : ByteArray) (ownsRow_keep (own_low HOw.out (by omega)) fun k hk hl => hall.block k hl fun e => ?_) (fun k hk => .inr hk) (fun y hy => ?_) (by omega)
    · obtain ⟨cu, h1, h2⟩ := own_tag HOw.out hk
      rcases e with rfl | rfl
      · omega
      · rw [HKD.out] at h1; cases h1
    · have hS0 : ∀ {y : ByteArray}, elStr.In w S y → elStr.In (VE.putObj D (.deferred none)) (fun k => S k ∨ w.heap.size ≤ k) y := fun h => elStr.mono (elStr.kept h hbelF.size fun k _ hl => hbelF.block k hl) fun k hk _ => .inl hk
      refine hS0 ?_
      obtain ⟨x, hx, hxy⟩ := List.mem_map.1 hy
      rw [List.mem_filter] at hx
      rw [HXe.out] at hx
      have hm := mrg_mem _ _ _ _ _ _ _ _ hx.1
      obtain ⟨j, hj, e⟩ := LT.mem_toL (hm.1 (hm.2.2.resolve_right (by simpa using hx.2)))
      rw [← hxy, ← e]
      exact HA.out.each j hj
end Go.Proofs.Ytckopbkhpbhljaa
