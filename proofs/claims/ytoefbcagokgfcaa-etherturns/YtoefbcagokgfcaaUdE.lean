import Derived.Test.YtoefbcagokgfcaaPack21
namespace Go.Proofs.Ytoefbcagokgfcaa
open Go.RowKit
set_option maxRecDepth 8000
theorem ownsRow_setCell {w : World} {base : Nat} {e : TypeId} {size g n cap : Nat} {xs : List Value} (h : w.ownsRow base e size (.slice (some ⟨g, 0, none⟩) n cap) n xs) (j : Nat) (u : Value) : (w.setCell ⟨g, j, none⟩ u).ownsRow base e size (.slice (some ⟨g, 0, none⟩) n cap) n (xs.set j u) := by
  refine ⟨by rw [List.length_set]; exact h.1, ?_⟩
  obtain ⟨hl, ⟨hv, h0⟩ | ⟨g', cap', cur, hv, hbg, hh, hnc, hcm, hcs, htk⟩⟩ := h
  · cases hv
  · obtain ⟨hg, _, rfl⟩ := Value.slice.inj hv
    obtain rfl : g = g' := by cases hg; rfl
    refine .inr ⟨g, cap, cur.setIfInBounds j u, rfl, hbg, (show Box w g cur e from hh).set j u, hnc, hcm, by simpa using hcs, ?_⟩
    rw [Array.toList_setIfInBounds, List.take_set, htk]
/-- one packet is another now -/
theorem RfI.put {w w3 : World} {Z : Nat → Prop} {rb : Nat} {m : Int} {v : Value} {P : List PK} {k : Nat} {y : PK} (hI : RfI w Z rb m v P)
    (hb : But (fun q => q = rb ∨ v.ownBlock = some q) w w3) (hbx : Box w3 rb #[.int .i64 m, v, .int .i64 ((infl (P.set k y)).length : Int)] 87)
    (ho : w3.ownsRow 0 90 4 v P.length ((P.set k y).flatMap PK.cells)) (hy : Byts w3 (fun k => ¬ Z k ∧ k ≠ rb ∧ v.ownBlock ≠ some k) y.y.p y.y.n y.y.c y.y.f) (hyn : y.y.n ≤ 32776) :
    RfI w3 Z rb m v (P.set k y) ∧ Fr Z w w3 := by
  refine ⟨⟨hbx, by rw [List.length_set]; exact ho, fun x hx => ?_, hI.zb, hI.zr, fun x hx => ?_⟩, hb.mono fun q _ e => ?_⟩
  · rcases List.mem_or_eq_of_mem_set hx with hx | rfl
    · exact (hI.dat x hx).kept hb.size fun q hq hl => hb.block q hl (fun e => by
        rcases e with e | e
        · exact hq.2.1 e
        · exact hq.2.2 e)
    · exact hy
  · rcases List.mem_or_eq_of_mem_set hx with hx | rfl
    · exact hI.sz x hx
    · exact hyn
  · rcases e with rfl | e
    · exact hI.zb
    · exact hI.zr q e
def RDlvQ (w : World) (Z : Nat → Prop) (rb : Nat) (m : Int) (A : List FA) (N : Nat) (i : Int) (e : Ending) (w' : World) : Prop :=
  (¬ inA i A.length → e = .returned (.tuple #[.agg #[.int .i64 0, .int .i64 0, .slice none 0 0], .bool false]) ∧ RfA w' Z rb m A N ∧ Fr Z w w') ∧
  (inA i A.length → ∃ (a : FA) (q : Option Addr) (c : Nat), A[i.toNat]? = some a ∧ e = .returned (.tuple #[.agg #[.int .i64 a.fr, .int .i64 a.tt, .slice q a.zs.length c], .bool true]) ∧ Src w' q a.zs.length c 1 (a.zs.map (.int .u8)) ∧ RfA w' Z rb m (A.eraseIdx i.toNat) N ∧ Fr Z w w')
set_option maxHeartbeats 8000000 in
/-- the reference's Deliver -/
theorem rdeliver_any (w : World) (Z : Nat → Prop) (rb : Nat) (m : Int) (A : List FA) (N : Nat) (hA : RfA w Z rb m A N) (hZ : ∀ k, Z k → k < w.heap.size) (hN : N * 48 ≤ 140737488355328) (hA2 : A.length ≤ 1000) (i : Int) (hib : i ≤ 9223372036854775807) :
    Calls Try.prog 35 #[.pointer (some ⟨rb, 0, none⟩), .int .i64 i] w fun e w' => RDlvQ w Z rb m A N i e w' := by
  obtain ⟨W, hW⟩ : ∃ W, W = w.alloc (.cells #[.int .i64 0, .int .i64 0, .slice none 0 0] 32) := ⟨_, rfl⟩
  have hBW : Below w.heap.size w W := by rw [hW]; exact (Below.refl _ _).alloc (Nat.le_refl _) _
  have hX : Box W w.heap.size #[.int .i64 0, .int .i64 0, .slice none 0 0] 32 := by rw [hW]; exact Box.new w _ _
  have HA0 := hid hA
  have hAW : RfA W (fun k => Z k ∨ k = w.heap.size) rb m A N := hA.below hBW (fun k hk h => h.resolve_right (by omega))
  have HAW := hid hAW
  obtain ⟨v, P, hI, hPA, hPN⟩ := hAW
  have HP := hid (rplace_any W _ rb m v P hI (by omega) i hib)
  rw [hPA] at HP
  have HZ := hid hZ
  have HBW := hid hBW
  have HW := hid hW
  have HX := hid hX
  have HI := hid hI
  have HPA := hid hPA
  have HPN := hid hPN
  by_cases h1 : inA i A.length
  case neg =>
    have HI1 := hid h1
    have c0 := hX.cell 0
    have c1 := hX.cell 1
    have c2 := hX.cell 2
    have g0 := hX.frozen 0
    have g1 := hX.frozen 1
    have g2 := hX.frozen 2
    have cl := hX.lt
    simp at c0 c1 c2
    clear h1 hA hBW hX hW hI hPA hPN hZ
    go_enter Try.func35, Try.ntmps35
    go_upto_region 1 with fail
    rw [← HW.out]
    go_wp2_with fail
    refine HP.out.mono ?_
    rintro e w1 ⟨rfl, hq, _⟩
    obtain rfl := hq HI1.out
    clear hq HP
    go_wp2
    have hb3 := but3 w1 w.heap.size (.int .i64 0) (.int .i64 0) (.slice none 0 0)
    refine bodyPost_ret (v := .tuple #[.agg #[.int .i64 0, .int .i64 0, .slice none 0 0], .bool false]) (by simp [results, Try.results35, go_sem, c0, c1, c2]) rfl ⟨fun _ => ⟨rfl, ?_, ?_⟩, fun h => absurd h HI1.out⟩
    · exact HAW.out.but (hb3.mono fun k _ e => .inr e) (fun k _ h => .inl h)
    · exact (Fr.below HBW.out).trans (hb3.mono fun k _ e hz => by have := HZ.out k hz; omega)
  case pos =>
    have HI1 := hid h1
    clear h1 hA hBW hX hW hI hPA hPN hZ
    go_enter Try.func35, Try.ntmps35
    go_upto_region 1 with fail
    rw [← HW.out]
    go_wp2_with fail
    refine HP.out.mono ?_
    rintro e w1 ⟨hw1, _, hq⟩
    subst w1
    obtain ⟨k, x, hPl, rfl⟩ := hq HI1.out
    have HPl := hid hPl
    clear hq HP hPl
    obtain ⟨g, cap, hv, hgl, c0, c1, c2, c3, hfz⟩ := HI.out.get HPl.out.at_
    subst hv
    have hkl : k < P.length := by
      rcases Nat.lt_or_ge k P.length with h | h
      · exact h
      · have := HPl.out.at_; rw [List.getElem?_eq_none h] at this; cases this
    have hkl' : (k : Int) < (P.length : Int) := by omega
    have hk0 : ¬ (k : Int) < 0 := by omega
    have b1 := HI.out.bx.cell 1
    simp at b1
    have bl := HI.out.bx.lt
    obtain ⟨V, hV⟩ : ∃ V, V = W.alloc (.cells #[.int .i64 x.fr, .int .i64 x.tt, .slice x.y.p x.y.n x.y.c, .bool x.out] 90) := ⟨_, rfl⟩
    have hBV : Below W.heap.size W V := by rw [hV]; exact (Below.refl _ _).alloc (Nat.le_refl _) _
    have hY : Box V W.heap.size #[.int .i64 x.fr, .int .i64 x.tt, .slice x.y.p x.y.n x.y.c, .bool x.out] 90 := by rw [hV]; exact Box.new _ _ _
    have hIV : RfI V (fun q => Z q ∨ q = w.heap.size ∨ q = W.heap.size) rb m (.slice (some ⟨g, 0, none⟩) P.length cap) P := HI.out.but (But.ofBelow hBV) (fun q hq h => by
      rcases h with h | h | h
      · exact .inl h
      · exact .inr h
      · omega)
    obtain ⟨_, _, hv', hgl', c0', c1', c2', c3', hfz'⟩ := hIV.get HPl.out.at_
    obtain ⟨hgg, _, _⟩ := Value.slice.inj hv'
    cases hgg
    have b1' := hIV.bx.cell 1
    simp at b1'
    have bl' := hIV.bx.lt
    have f0 := hfz' (k * 4)
    have f1 := hfz' (k * 4 + 1)
    have f2 := hfz' (k * 4 + 2)
    have f3 := hfz' (k * 4 + 3)
    have hWl : w.heap.size < W.heap.size := HX.out.lt
    have HV := hid hV
    have HBV := hid hBV
    have HY := hid hY
    have HIV := hid hIV
    have HWl := hid hWl
    clear hV hBV hY hIV hv' hWl hfz hfz'
    go_upto_region 5 with fail
    rw [← HV.out]
    clear c0 c1 c2 c3 b1 bl
    go_upto_region 6 with fail
    obtain ⟨T, hT⟩ : ∃ T, T = (((V.setCell ⟨g, k * 4, none⟩ (.int .i64 0)).setCell ⟨g, k * 4 + 1, none⟩ (.int .i64 0)).setCell ⟨g, k * 4 + 2, none⟩ (.slice none 0 0)).setCell ⟨g, k * 4 + 3, none⟩ (.bool true) := ⟨_, rfl⟩
    rw [← hT]
    have hbt : But (fun q => q = g) V T := by rw [hT]; exact ((((But.one V g).setAt _ _).setAt _ _).setAt _ _).setAt _ _
    have hgb : g ≠ rb := fun e => HIV.out.ne_row (by rw [← e]; rfl)
    have hbxT := HIV.out.bx.but hbt (fun e => hgb e.symm)
    have hoT : T.ownsRow 0 90 4 (.slice (some ⟨g, 0, none⟩) P.length cap) P.length ((P.set k ⟨0, 0, ⟨none, 0, 0, fun _ => 0⟩, true⟩).flatMap PK.cells) := by
      rw [flat4_set P k _ hkl, hT]
      exact ownsRow_setCell (ownsRow_setCell (ownsRow_setCell (ownsRow_setCell HIV.out.row _ _) _ _) _ _) _ _
    have d2 := hbxT.cell 2
    have df := hbxT.frozen 2
    have dl := hbxT.lt
    simp at d2
    have hAl : (infl P).length = A.length := by rw [HPA.out]
    obtain ⟨L, hL⟩ : ∃ L : Nat, A.length = L + 1 := ⟨A.length - 1, by have h1 : 0 ≤ i ∧ i < (A.length : Int) := HI1.out; omega⟩
    rw [hAl, hL] at d2
    have HT := hid (And.intro hbt (And.intro hbxT hoT))
    have HL := hid hL
    rw [hL] at hA2
    have HAl := hid hAl
    clear hT hbt hbxT hoT hL hAl c0' c1' c2' c3' b1' bl' f0 f1 f2 f3
    go_upto_region 7 with fail
    obtain ⟨U, hU⟩ : ∃ U, U = T.setCell ⟨rb, 2, none⟩ (.int .i64 (L : Int)) := ⟨_, rfl⟩
    rw [← hU]
    have hbu : But (fun q => q = rb) T U := by rw [hU]; exact (But.one T rb).setAt 2 _
    have hbV : But (fun q => q = rb ∨ (Value.slice (some ⟨g, 0, none⟩) P.length cap).ownBlock = some q) V U := (HT.out.1.mono fun q _ e => .inr (by rw [show q = g from e]; rfl)).trans (hbu.mono fun q _ e => .inl e)
    have hpu := HPl.out.put ⟨0, 0, ⟨none, 0, 0, fun _ => 0⟩, true⟩
    have hinl : (infl (P.set k ⟨0, 0, ⟨none, 0, 0, fun _ => 0⟩, true⟩)).length = L := by
      rw [hpu.1 rfl, List.length_eraseIdx_of_lt (by have h1 : 0 ≤ i ∧ i < (A.length : Int) := HI1.out; have := HAl.out; omega), HAl.out, HL.out]
      rfl
    have hbxU : Box U rb #[.int .i64 m, .slice (some ⟨g, 0, none⟩) P.length cap, .int .i64 ((infl (P.set k ⟨0, 0, ⟨none, 0, 0, fun _ => 0⟩, true⟩)).length : Int)] 87 := by
      rw [hinl, hU]
      have h := HT.out.2.1.set 2 (.int .i64 (L : Int))
      simpa using h
    have hoU : U.ownsRow 0 90 4 (.slice (some ⟨g, 0, none⟩) P.length cap) P.length ((P.set k ⟨0, 0, ⟨none, 0, 0, fun _ => 0⟩, true⟩).flatMap PK.cells) := ownsRow_keep HT.out.2.2 fun q hq hl => hbu.block q hl (fun e => by
      have e1 : q = rb := e
      have e2 : g = q := by simpa [Value.ownBlock] using hq
      exact hgb (e2.trans e1))
    have hR := HIV.out.put hbV hbxU hoU ⟨fun h => absurd h (by simp), Nat.le_refl _, by simp, Nat.zero_le _, fun j hj => absurd hj (by simp), fun _ => ⟨rfl, rfl⟩⟩ (by simp)
    have hYU := (HY.out.but HT.out.1 (show ¬ W.heap.size = g by omega)).but hbu (fun e => by
      have e1 : W.heap.size = rb := e
      have h1 := HY.out
      rw [e1] at h1
      have := box_ty h1 HIV.out.bx
      cases this)
    have hXV := HX.out.below HBV.out
    have hXU := (hXV.but HT.out.1 (show ¬ w.heap.size = g from fun e => by
      obtain ⟨_, ⟨hv, _⟩ | ⟨g', cap', cur, hv, _, hh, _⟩⟩ := HIV.out.row
      · cases hv
      · obtain ⟨h1, _, _⟩ := Value.slice.inj hv
        cases h1
        rw [e] at hXV
        have := box_ty hXV (show Box V g cur 90 from hh)
        cases this)).but hbu (fun e => by
      have e1 : w.heap.size = rb := e
      rw [e1] at hXV
      have := box_ty hXV HIV.out.bx
      cases this)
    have p0 := hYU.cell 0
    have p1 := hYU.cell 1
    have p2 := hYU.cell 2
    simp at p0 p1 p2
    have pl := hYU.lt
    have q0 := hXU.cell 0
    have q1 := hXU.cell 1
    have q2 := hXU.cell 2
    simp at q0 q1 q2
    have ql := hXU.lt
    have z0 := hXU.frozen 0
    have z1 := hXU.frozen 1
    have z2 := hXU.frozen 2
    have HR := hid hR
    have HBu := hid hbV
    have HPu : Hid (infl (P.set k ⟨0, 0, ⟨none, 0, 0, fun _ => 0⟩, true⟩) = A.eraseIdx i.toNat) := by show _ = _; rw [hpu.1 rfl, HPA.out]
    clear hU hbu hbV hpu hinl hbxU hoU hR hYU hXV hXU
    go_wp2
    have hb3 := but3 U w.heap.size (.int .i64 x.fr) (.int .i64 x.tt) (.slice x.y.p x.y.n x.y.c)
    have hmem := List.mem_of_getElem? HPl.out.at_
    have hyn : x.a.zs.length = x.y.n := BY.len x.y
    refine bodyPost_ret (v := .tuple #[.agg #[.int .i64 x.fr, .int .i64 x.tt, .slice x.y.p x.y.n x.y.c], .bool true]) (by simp [results, Try.results35, go_sem, q0, q1, q2]) rfl ⟨fun h => absurd HI1.out h, fun _ => ⟨x.a, x.y.p, x.y.c, ?_, ?_, ?_, ?_, ?_⟩⟩
    · rw [← HPA.out]; exact HPl.out.get
    · rw [hyn]; rfl
    · have h1 : Byts V (fun q => (¬ (Z q ∨ q = w.heap.size ∨ q = W.heap.size) ∧ q ≠ rb ∧ (Value.slice (some ⟨g, 0, none⟩) P.length cap).ownBlock ≠ some q)) x.y.p x.y.n x.y.c x.y.f := HIV.out.dat x hmem
      have h2 := h1.kept HBu.out.size fun q hq hl => HBu.out.block q hl (fun e => by
        rcases e with e | e
        · exact hq.2.1 e
        · exact hq.2.2 e)
      exact BY.src (x := x.y) (h2.kept hb3.size fun q hq hl => hb3.block q hl (fun e => hq.1 (.inr (.inl e))))
    · have h1 : RfA U (fun q => Z q ∨ q = w.heap.size ∨ q = W.heap.size) rb m (A.eraseIdx i.toNat) N := ⟨_, _, HR.out.1, HPu.out, by rw [List.length_set]; exact HPN.out⟩
      exact h1.but (hb3.mono fun q _ e => .inr (.inl e)) (fun q _ h => .inl h)
    · have hw : Fr Z w V := Fr.below (HBW.out.trans (HBV.out.mono HBW.out.size))
      exact (hw.trans (HR.out.2.mono fun q _ h hz => h (.inl hz))).trans (hb3.mono fun q _ e hz => by have := HZ.out q hz; omega)
def RDropQ (w : World) (Z : Nat → Prop) (rb : Nat) (m : Int) (A : List FA) (N : Nat) (i : Int) (e : Ending) (w' : World) : Prop :=
  (¬ inA i A.length → e = .returned (.bool false) ∧ RfA w' Z rb m A N ∧ Fr Z w w') ∧ (inA i A.length → e = .returned (.bool true) ∧ RfA w' Z rb m (A.eraseIdx i.toNat) N ∧ Fr Z w w')
set_option maxHeartbeats 4000000 in
/-- the reference's Drop -/
theorem rdrop_any (w : World) (Z : Nat → Prop) (rb : Nat) (m : Int) (A : List FA) (N : Nat) (hA : RfA w Z rb m A N) (hZ : ∀ k, Z k → k < w.heap.size) (hN : N * 48 ≤ 140737488355328) (hA2 : A.length ≤ 1000) (i : Int) (hib : i ≤ 9223372036854775807) :
    Calls Try.prog 36 #[.pointer (some ⟨rb, 0, none⟩), .int .i64 i] w fun e w' => RDropQ w Z rb m A N i e w' := by
  have HD := hid (rdeliver_any w Z rb m A N hA hZ hN hA2 i hib)
  clear hA hZ
  by_cases h1 : inA i A.length
  · have HI1 := hid h1
    clear h1
    go_enter Try.func36, Try.ntmps36
    go_wp2_with fail
    refine HD.out.mono ?_
    intro e w1 hq
    obtain ⟨a, q, c, ha, rfl, hs, hR, hF⟩ := hq.2 HI1.out
    have HR := hid (And.intro (hR.below ((Below.refl _ _).alloc (Nat.le_refl _) (.cells #[.int .i64 a.fr, .int .i64 a.tt, .slice q a.zs.length c] 32)) (fun _ _ h => h)) (hF.trans (Fr.below ((Below.refl _ _).alloc (Nat.le_refl _) (.cells #[.int .i64 a.fr, .int .i64 a.tt, .slice q a.zs.length c] 32)))))
    clear hq ha hs hR hF HD
    go_wp2
    exact bodyPost_ret (v := .bool true) (by simp [results, Try.results36, go_sem]) rfl ⟨fun h => absurd HI1.out h, fun _ => ⟨rfl, HR.out.1, HR.out.2⟩⟩
  · have HI1 := hid h1
    clear h1
    go_enter Try.func36, Try.ntmps36
    go_wp2_with fail
    refine HD.out.mono ?_
    intro e w1 hq
    obtain ⟨rfl, hR, hF⟩ := hq.1 HI1.out
    have HR := hid (And.intro (hR.below ((Below.refl _ _).alloc (Nat.le_refl _) (.cells #[.int .i64 0, .int .i64 0, .slice none 0 0] 32)) (fun _ _ h => h)) (hF.trans (Fr.below ((Below.refl _ _).alloc (Nat.le_refl _) (.cells #[.int .i64 0, .int .i64 0, .slice none 0 0] 32)))))
    clear hq hR hF HD
    go_wp2
    exact bodyPost_ret (v := .bool false) (by simp [results, Try.results36, go_sem]) rfl ⟨fun _ => ⟨rfl, HR.out.1, HR.out.2⟩, fun h => absurd h HI1.out⟩
end Go.Proofs.Ytoefbcagokgfcaa
