import Derived.Test.YtbeibhmbaofjhaaPack4
namespace Go.Proofs.Ytbeibhmbaofjhaa
open Go.RowKit
set_option maxRecDepth 8000
theorem step_callG {ops : Array Oper} {o : Oper} {a : Act} {w : World} {K : Act → World → Prop} {Q : Exit → Act → World → Prop} {E : Prop}
    (hw : Region.wanted o (yielded ops a.tmps) = true) (f : Nat) (xs : Array Operand) (ts : Array TypeId) (hop : o.op = Op.call { callee := Callee.value (Operand.func f), args := xs, argTypes := ts })
    (F : Func) (hF : Try.prog.funcs[f]? = some F) (hN : (F.name == "runtime.NumGoroutine") = false) (hB : F.body.isNone = false) (vs : Array Value) (hvl : xs.toList.map a.eval = vs.toList) (R : Ending → World → Prop) (hC : Calls Try.prog f vs w R) (hK : ∀ e w', R e w' → ∃ v, e = .returned v ∧ K (a.put o.dst v) w') :
    if Region.wanted o (yielded ops a.tmps) = true then Oper.wp Try.prog o a w K Q else E := by
  rw [if_pos hw]
  have hvs : xs.map a.eval = vs := by
    obtain ⟨xl⟩ := xs
    obtain ⟨vl⟩ := vs
    simp only at hvl
    rw [List.map_toArray, hvl]
  have hrun : (execOp a.eval o).run Try.prog w = .ok (.enter f vs) w := by
    have h1 : ¬ F.name = "runtime.NumGoroutine" := by simpa using hN
    have h2 : ¬ F.body = none := by intro h; rw [h] at hB; cases hB
    simp [execOp, hop, resolve, invoke, hvs, Deferred.ofValue, Act.eval, callFunc, Result.andThen, go_sem, hF, h1, h2]
  unfold Oper.wp
  rw [hrun, Oper.upon_enter]
  refine hC.mono fun e w' h => ?_
  obtain ⟨v, rfl, hk⟩ := hK e w' h
  exact hk
def NewQ (m : Int) (w : World) (e : Ending) (w' : World) : Prop :=
  ((m < 1 ∨ 8 < m) → e = .returned (.tuple #[.pointer none, .int .i64 220]) ∧ w' = w) ∧
  (¬ (m < 1 ∨ 8 < m) → e = .returned (.tuple #[.pointer (some ⟨w.heap.size, 0, none⟩), .int .i64 0]) ∧ w.heap.size < w'.heap.size ∧ Below w.heap.size w w' ∧ ∀ Z : Nat → Prop, (∀ k, Z k → k < w.heap.size) → EtA w' Z w.heap.size m [])
set_option maxHeartbeats 4000000 in
/-- New -/
theorem new_any (m : Int) (w : World) : Calls Try.prog 15 #[.int .i64 m] w fun e w' => NewQ m w e w' := by
  by_cases h0 : m < 1
  · have HP := hid h0
    go_enter Try.func15, Try.ntmps15
    go_wp2
    exact bodyPost_ret (v := .tuple #[.pointer none, .int .i64 220]) (by simp [results, Try.results15, go_sem]) rfl ⟨fun _ => ⟨rfl, rfl⟩, fun h => absurd (.inl HP.out) h⟩
  · by_cases h1 : 8 < m
    · have HP := hid h1
      have h0' : decide (m < 1) = false := decide_eq_false h0
      have h1' : decide (8 < m) = true := decide_eq_true h1
      clear h0 h1
      go_enter Try.func15, Try.ntmps15
      go_wp2
      exact bodyPost_ret (v := .tuple #[.pointer none, .int .i64 220]) (by simp [results, Try.results15, go_sem]) rfl ⟨fun _ => ⟨rfl, rfl⟩, fun h => absurd (.inr HP.out) h⟩
    · have h0' : decide (m < 1) = false := decide_eq_false h0
      have h1' : decide (8 < m) = false := decide_eq_false h1
      have HP := hid (show ¬ (m < 1 ∨ 8 < m) by omega)
      clear h0 h1
      go_enter Try.func15, Try.ntmps15
      go_wp2
      refine bodyPost_ret (v := .tuple #[.pointer (some ⟨w.heap.size, 0, none⟩), .int .i64 0]) (by simp [results, Try.results15, go_sem]) rfl ⟨fun h => absurd h HP.out, fun _ => ⟨rfl, by simp, (Below.refl _ _).alloc (Nat.le_refl _) _, fun Z hZ => ?_⟩⟩
      refine ⟨.slice none 0 0, [], ⟨Box.new w _ _, RowX.nil _, fun x hx => (by cases hx), .nil, ?_, by simp, fun x hx => (by cases hx), fun x hx => (by cases hx)⟩, rfl⟩
      rintro k (rfl | hk | ⟨x, hx, _⟩)
      · intro hz
        have := hZ _ hz
        omega
      · cases hk
      · cases hx
set_option maxHeartbeats 4000000 in
/-- has -/
theorem has_any (w : World) (Z : Nat → Prop) (b : Nat) (m : Int) (v : Value) (L : List FL) (hI : EtI w Z b m v L) (i : Int) :
    Calls Try.prog 17 #[.pointer (some ⟨b, 0, none⟩), .int .i64 i] w fun e w' => e = .returned (.bool (decide (0 ≤ i ∧ i < (L.length : Int)))) ∧ w' = w := by
  obtain ⟨p, c, hv⟩ := hI.row.slice
  have b1 := hI.bx.cell 1
  simp [hv] at b1
  have bl := hI.bx.lt
  clear hI hv
  by_cases h0 : 0 ≤ i
  · by_cases h1 : i < (L.length : Int)
    · have hd : decide (0 ≤ i ∧ i < (L.length : Int)) = true := decide_eq_true ⟨h0, h1⟩
      rw [hd]
      have h0' : decide (0 ≤ i) = true := decide_eq_true h0
      have h1' : decide (i < (L.length : Int)) = true := decide_eq_true h1
      clear hd
      go_enter Try.func17, Try.ntmps17
      go_wp2
      exact bodyPost_ret (v := .bool true) (by simp [results, Try.results17, go_sem]) rfl ⟨rfl, rfl⟩
    · have hd : decide (0 ≤ i ∧ i < (L.length : Int)) = false := decide_eq_false (fun h => h1 h.2)
      rw [hd]
      have h0' : decide (0 ≤ i) = true := decide_eq_true h0
      have h1' : decide (i < (L.length : Int)) = false := decide_eq_false h1
      clear hd
      go_enter Try.func17, Try.ntmps17
      go_wp2
      exact bodyPost_ret (v := .bool false) (by simp [results, Try.results17, go_sem]) rfl ⟨rfl, rfl⟩
  · have hd : decide (0 ≤ i ∧ i < (L.length : Int)) = false := decide_eq_false (fun h => h0 h.1)
    rw [hd]
    have h0' : decide (0 ≤ i) = false := decide_eq_false h0
    clear hd
    go_enter Try.func17, Try.ntmps17
    go_wp2
    exact bodyPost_ret (v := .bool false) (by simp [results, Try.results17, go_sem]) rfl ⟨rfl, rfl⟩
set_option maxHeartbeats 4000000 in
/-- isMachine -/
theorem isM_any (w : World) (b : Nat) (m : Int) (hb : w.cell? ⟨b, 0, none⟩ = some (.int .i64 m)) (i : Int) :
    Calls Try.prog 38 #[.pointer (some ⟨b, 0, none⟩), .int .i64 i] w fun e w' => e = .returned (.bool (decide (0 ≤ i ∧ i < m))) ∧ w' = w := by
  by_cases h0 : 0 ≤ i
  · by_cases h1 : i < m
    · have hd : decide (0 ≤ i ∧ i < m) = true := decide_eq_true ⟨h0, h1⟩
      rw [hd]
      have h0' : decide (0 ≤ i) = true := decide_eq_true h0
      have h1' : decide (i < m) = true := decide_eq_true h1
      clear hd
      go_enter Try.func38, Try.ntmps38
      go_wp2
      exact bodyPost_ret (v := .bool true) (by simp [results, Try.results38, go_sem]) rfl ⟨rfl, rfl⟩
    · have hd : decide (0 ≤ i ∧ i < m) = false := decide_eq_false (fun h => h1 h.2)
      rw [hd]
      have h0' : decide (0 ≤ i) = true := decide_eq_true h0
      have h1' : decide (i < m) = false := decide_eq_false h1
      clear hd
      go_enter Try.func38, Try.ntmps38
      go_wp2
      exact bodyPost_ret (v := .bool false) (by simp [results, Try.results38, go_sem]) rfl ⟨rfl, rfl⟩
  · have hd : decide (0 ≤ i ∧ i < m) = false := decide_eq_false (fun h => h0 h.1)
    rw [hd]
    have h0' : decide (0 ≤ i) = false := decide_eq_false h0
    clear hd
    go_enter Try.func38, Try.ntmps38
    go_wp2
    exact bodyPost_ret (v := .bool false) (by simp [results, Try.results38, go_sem]) rfl ⟨rfl, rfl⟩

/-- one flight more -/
theorem EtI.add {w w2 w3 : World} {Z : Nat → Prop} {b : Nat} {m : Int} {v v' : Value} {L : List FL} {u : FL} (hI : EtI w Z b m v L) (hZ : ∀ k, Z k → k < w.heap.size) (hB : Below w.heap.size w w2)
    (hud : w.heap.size ≤ u.d) (hub : Box w2 u.d (bys u.zs) 5) (hlt : L.length < 256) (hl : u.zs.length ≤ 32776) (hby : ∀ z ∈ u.zs, 0 ≤ z ∧ z < 256)
    (ho : RowX w3 v' (L.length + 1) (L.flatMap FL.cells ++ [.int .i64 u.fr, .int .i64 u.tt, .slice (some ⟨u.d, 0, none⟩) u.zs.length u.zs.length])) (hg : w2.grownBy w3 v.ownBlock) (hn : Near w2 v v') :
    EtI (w3.setCell ⟨b, 1, none⟩ v') Z b m v' (L ++ [u]) ∧ Fr Z w (w3.setCell ⟨b, 1, none⟩ v') ∧ b < w3.heap.size ∧ w3.cell? ⟨b, 1, none⟩ = some v ∧ w3.frozen? ⟨b, 1, none⟩ = false := by
  have hI2 := hI.below hB
  have hgb : ∀ k, k < w2.heap.size → v.ownBlock ≠ some k → w3.heap[k]? = w2.heap[k]? := fun k hk hne => hg.block k hk (fun e => hne e.symm)
  have hbx3 : Box w3 b #[.int .i64 m, v] 65 := hI2.bx.kept (hgb b hI2.bx.lt hI2.ne_row)
  have hbl := hI.bx.lt
  have hs2 := hB.size
  have hv'b : v'.ownBlock ≠ some b := by
    intro e
    rcases hn with h1 | h1
    · exact hI2.ne_row (h1 ▸ e)
    · have := h1 b e
      omega
  have hbt : But (fun k => k = b) w3 (w3.setCell ⟨b, 1, none⟩ v') := (But.one w3 b).setAt 1 v'
  have hne : ∀ k, k ≠ b → (w3.setCell ⟨b, 1, none⟩ v').heap[k]? = w3.heap[k]? := fun k hk => Below.heap_setCell _ _ _ _ (by simpa using hk)
  have hdne : ∀ x ∈ L, v.ownBlock ≠ some x.d := fun x hx => (hI2.ne_dat hx).2
  have hnu : v.ownBlock ≠ some u.d := fun e => by have := hI.lt (.inr (.inl e)); omega
  refine ⟨⟨?_, ?_, ?_, ?_, ?_, ?_, ?_, ?_⟩, ?_, hbx3.lt, ?_, hbx3.frozen 1⟩
  · have h := hbx3.set 1 v'
    simpa using h
  · have e : (L ++ [u]).flatMap FL.cells = L.flatMap FL.cells ++ [.int .i64 u.fr, .int .i64 u.tt, .slice (some ⟨u.d, 0, none⟩) u.zs.length u.zs.length] := by
      rw [List.flatMap_append]; simp [FL.cells]
    rw [e, List.length_append]
    exact ho.kept fun g hg' _ => hne g (fun e => hv'b (by rw [← e]; exact hg'))
  · intro x hx
    rcases List.mem_append.1 hx with hx | hx
    · refine ((hI2.dat x hx).kept (hgb _ (hI2.dat x hx).lt (hdne x hx))).kept (hne _ (hI.ne_dat hx).1)
    · obtain rfl : x = u := by simpa using hx
      exact (hub.kept (hgb _ hub.lt hnu)).kept (hne _ (by omega))
  · rw [List.pairwise_append]
    refine ⟨hI.pw, by simp, fun x hx y hy => ?_⟩
    obtain rfl : y = u := by simpa using hy
    have := (hI.dat x hx).lt
    omega
  · rintro k (rfl | hk | ⟨x, hx, rfl⟩)
    · exact hI.z _ (.inl rfl)
    · intro hz
      rcases hn with h1 | h1
      · exact hI.z k (.inr (.inl (h1 ▸ hk))) hz
      · have := h1 k hk
        have := hZ k hz
        omega
    · rcases List.mem_append.1 hx with hx | hx
      · exact hI.z _ (.inr (.inr ⟨x, hx, rfl⟩))
      · obtain rfl : x = u := by simpa using hx
        intro hz
        have := hZ _ hz
        omega
  · simp; omega
  · intro x hx
    rcases List.mem_append.1 hx with hx | hx
    · exact hI.sz x hx
    · obtain rfl : x = u := by simpa using hx
      exact hl
  · intro x hx
    rcases List.mem_append.1 hx with hx | hx
    · exact hI.by_ x hx
    · obtain rfl : x = u := by simpa using hx
      exact hby
  · have h1 : But (fun k => ¬ Z k) w w2 := But.ofBelow hB
    have h2 : But (fun k => ¬ Z k) w w3 := h1.grown hg fun k hk _ => hI.z k (.inr (.inl hk))
    exact h2.setCell (p := ⟨b, 1, none⟩) (fun _ => hI.z b (.inl rfl)) v'
  · have h := hbx3.cell 1
    simpa using h
def LayQ (w : World) (Z : Nat → Prop) (b : Nat) (m : Int) (A : List FA) (a : FA) (e : Ending) (w' : World) : Prop :=
  (256 ≤ A.length → e = .returned (.int .i64 223) ∧ EtA w' Z b m A ∧ Fr Z w w') ∧ (A.length < 256 → e = .returned (.int .i64 0) ∧ EtA w' Z b m (A ++ [a]) ∧ Fr Z w w')
set_option maxHeartbeats 4000000 in
/-- lay -/
theorem lay_any (w : World) (Z : Nat → Prop) (b : Nat) (m : Int) (v : Value) (L : List FL) (hI : EtI w Z b m v L) (hZ : ∀ k, Z k → k < w.heap.size) (fr tt : Int) (p : Option Addr) (c : Nat) (zs : List Int) (hs : Src w p zs.length c 1 (zs.map (.int .u8))) (hl : zs.length ≤ 32776) (hby : ∀ z ∈ zs, 0 ≤ z ∧ z < 256) :
    Calls Try.prog 18 #[.pointer (some ⟨b, 0, none⟩), .agg #[.int .i64 fr, .int .i64 tt, .slice p zs.length c]] w fun e w' => LayQ w Z b m (L.map FL.a) ⟨fr, tt, zs⟩ e w' := by
  obtain ⟨W, hW⟩ : ∃ W, W = w.alloc (.cells #[.int .i64 fr, .int .i64 tt, .slice p zs.length c] 53) := ⟨_, rfl⟩
  have hBW : Below w.heap.size w W := by rw [hW]; exact (Below.refl _ _).alloc (Nat.le_refl _) _
  have hX : Box W w.heap.size #[.int .i64 fr, .int .i64 tt, .slice p zs.length c] 53 := by rw [hW]; exact Box.new w _ _
  have hIW := hI.below hBW
  obtain ⟨p0, c0, hv⟩ := hIW.row.slice
  have HLn : Hid ((L.map FL.a).length = L.length) := by show _ = _; simp
  have HI := hid hI
  have HZ := hid hZ
  have HBy := hid hby
  have HBW := hid hBW
  have HIW := hid hIW
  have HW := hid hW
  have HCp : Hid (Calls Try.prog 19 #[.agg #[.int .i64 fr, .int .i64 tt, .slice p zs.length c]] W.drew fun e w' => CpQ fr tt zs W.drew e w') := by
    refine copied_any fr tt p c zs W.drew ?_ (by omega)
    rcases hs with h | ⟨ad, h1, h2, h3⟩
    · exact .inl h
    · refine .inr ⟨ad, h1, h2, fun j u hu => ?_⟩
      have h4 := h3 j u hu
      show W.cell? _ = _
      rw [hBW.cell (block_lt_of_cell h4)]
      exact h4
  have b1 := hIW.bx.cell 1
  simp [hv] at b1
  have bl := hIW.bx.lt
  have y0 := hX.cell 0
  have y1 := hX.cell 1
  have y2 := hX.cell 2
  simp at y0 y1 y2
  have yl := hX.lt
  by_cases hlt : L.length < 256
  · have hd : decide (256 ≤ L.length) = false := decide_eq_false (by omega)
    have hlt2 : ¬ (256 : Int) ≤ (L.length : Int) := by omega
    have HR : Hid (∀ wx, Below W.heap.size W wx → RowX wx v L.length (L.flatMap FL.cells)) := fun wx hx => HIW.out.row.kept fun g hg hl => hx.block g hl
    clear hI hZ hby hBW hX hIW hW hs
    have HV := hid hv
    subst hv
    go_enter Try.func18, Try.ntmps18
    go_upto_region 1 with fail
    rw [← HW.out]
    go_upto_region 3 with fail
    refine wp_region_calmE 30 (fun wx => Below W.heap.size W wx) [(0, true), (1, true), (2, true), (3, true), (4, false), (5, false)] (.one 6 true [] (.one 7 true [] (.one 8 false [(9, true), (10, true)] (.one 11 false [] .done)))) (by kernel_rfl) (by kernel_rfl) (Below.refl _ _).drew ?_
    refine wpPre_e rfl rfl (fun K1 hK1 => ?_)
    apply Exists.intro
    refine And.intro (fun wx hx => ?_) ?_
    · go_simp
      try rfl
    go_simp
    refine hK1 _ ?_
    clear hK1 K1
    refine wpPre_e rfl rfl (fun K1 hK1 => ?_)
    apply Exists.intro
    refine And.intro (fun wx hx => ?_) ?_
    · go_simp
      try rfl
    go_simp
    refine hK1 _ ?_
    clear hK1 K1
    refine wpPre_e rfl rfl (fun K1 hK1 => ?_)
    apply Exists.intro
    refine And.intro (fun wx hx => ?_) ?_
    · go_simp
      try rfl
    go_simp
    refine hK1 _ ?_
    clear hK1 K1
    refine wpPre_e rfl rfl (fun K1 hK1 => ?_)
    apply Exists.intro
    refine And.intro (fun wx hx => ?_) ?_
    · go_simp
      try rfl
    go_simp
    refine hK1 _ ?_
    clear hK1 K1
    refine wpPre_e rfl rfl (fun K1 hK1 => ?_)
    apply Exists.intro
    refine And.intro (fun wx hx => ?_) ?_
    · have e0 := below_fact hx rfl y0
      have e1 := below_fact hx rfl y1
      have e2 := below_fact hx rfl y2
      have e3 := below_fact hx rfl b1
      go_simp
      try rfl
    go_simp
    refine hK1 _ ?_
    clear hK1 K1
    refine wpPre_e rfl rfl (fun K1 hK1 => ?_)
    apply Exists.intro
    refine And.intro (fun wx hx => ?_) ?_
    · have e0 := below_fact hx rfl y0
      have e1 := below_fact hx rfl y1
      have e2 := below_fact hx rfl y2
      have e3 := below_fact hx rfl b1
      go_simp
      try rfl
    go_simp
    refine hK1 _ ?_
    clear hK1 K1
    refine wpPre_nil ?_
    refine wpTr_e rfl (fun K1 hK1 => ?_)
    refine step_call rfl 19 #[.tmp 16] _ rfl Try.f19 Try.func19 (by kernel_rfl) rfl #[.agg #[.int .i64 fr, .int .i64 tt, .slice p zs.length c]] rfl _ HCp.out ?_
    rintro e1 w1 ⟨d, rfl, hd, hbd, hb1⟩
    refine ⟨_, rfl, ?_⟩
    have HB1 : Hid (Below W.heap.size W w1) := ((Below.refl _ _).drew).trans hb1
    have HD := hid (And.intro hd hbd)
    clear hd hbd hb1
    go_simp
    refine hK1 _ _ (fun _ => HB1.out) ?_
    clear hK1 K1
    refine wpPre_nil ?_
    refine wpTr_e rfl (fun K1 hK1 => ?_)
    go_simp
    refine hK1 _ _ (fun _ => HB1.out.alloc HB1.out.size _) ?_
    clear hK1 K1
    refine wpPre_nil ?_
    refine wpTr_e rfl (fun K1 hK1 => ?_)
    refine step_appX rfl (.tmp 15) (.tmp 18) rfl (.slice p0 L.length c0) L.length (L.flatMap FL.cells) rfl (HR.out _ (HB1.out.alloc HB1.out.size _)) ⟨w1.heap.size, 0, none⟩ 1 1 [.int .i64 fr, .int .i64 tt, .slice (some ⟨d, 0, none⟩) zs.length zs.length] rfl rfl ?_ ?_ (by omega) ?_
    · intro j u hu
      rw [cell_new, ← hu]
      simp
    · intro u hu
      simp only [List.mem_cons, List.not_mem_nil, or_false] at hu
      rcases hu with rfl | rfl | rfl <;> rfl
    intro v3 w3 ho hg hn
    obtain ⟨p3, c3, hv3⟩ := ho.slice
    subst hv3
    have HA := hid (EtI.add (u := ⟨fr, tt, d, zs⟩) HI.out HZ.out (HBW.out.trans ((HB1.out.alloc HB1.out.size _).mono HBW.out.size)) (show w.heap.size ≤ d from Nat.le_trans HBW.out.size HD.out.1) (HD.out.2.below ((Below.refl _ _).alloc (Nat.le_refl _) _)) hlt hl HBy.out ho hg hn)
    have e0 := HA.out.2.2.1
    have e1 := HA.out.2.2.2.1
    have e2 := HA.out.2.2.2.2
    clear ho hg hn
    go_simp
    refine hK1 _ _ (fun h => by cases h) ?_
    clear hK1 K1
    refine wpPre_e rfl rfl (fun K1 hK1 => ?_)
    apply Exists.intro
    refine And.intro (fun wx hx => ?_) ?_
    · go_simp
      try rfl
    go_simp
    refine hK1 _ ?_
    clear hK1 K1
    refine wpPre_e rfl rfl (fun K1 hK1 => ?_)
    apply Exists.intro
    refine And.intro (fun wx hx => ?_) ?_
    · go_simp
      try rfl
    go_simp
    refine hK1 _ ?_
    clear hK1 K1
    refine wpPre_nil ?_
    refine wpTr_e rfl (fun K1 hK1 => ?_)
    go_simp
    refine hK1 _ _ (fun h => by cases h) ?_
    clear hK1 K1
    refine wpPre_nil ?_
    refine wpTr_done ?_
    have HF := hid HA.out.1
    have HFr := hid HA.out.2.1
    clear HA e0 e1 e2
    go_wp2
    refine bodyPost_ret (v := .int .i64 0) (by simp [results, Try.results18, go_sem]) rfl ⟨fun h => ?_, fun _ => ⟨rfl, ⟨_, _, HF.out, by simp [FL.a]⟩, HFr.out⟩⟩
    have := HLn.out
    omega
  · have hlt2 : (256 : Int) ≤ (L.length : Int) := by omega
    clear hI hZ hby hBW hX hIW hW hs
    go_enter Try.func18, Try.ntmps18
    go_upto_region 1 with fail
    rw [← HW.out]
    go_wp2
    refine bodyPost_ret (v := .int .i64 223) (by simp [results, Try.results18, go_sem]) rfl ⟨fun _ => ⟨rfl, ⟨v, L, HIW.out, rfl⟩, Fr.below HBW.out⟩, fun h => ?_⟩
    have := HLn.out
    omega
end Go.Proofs.Ytbeibhmbaofjhaa
