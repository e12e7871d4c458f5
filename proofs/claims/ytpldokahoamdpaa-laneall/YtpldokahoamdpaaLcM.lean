import Derived.Test.YtpldokahoamdpaaPack13
namespace Go.Proofs.Ytpldokahoamdpaa
open Go.RowKit Go.Conc
set_option maxRecDepth 8000
theorem kindRs : ∃ i, Kind 38 33 i (.agg #[.string ⟨#[]⟩, .int .i64 0, .int .i64 0, .string ⟨#[]⟩, .slice none 0 0, .slice none 0 0]) 6 96 := by
  obtain ⟨i0, hi, hz0, hz1, hz2⟩ := info_parts (show (Try.prog.info? 33).map (fun i => (i.zero, i.size, i.bytes)) = some (some (.agg #[.string ⟨#[]⟩, .int .i64 0, .int .i64 0, .string ⟨#[]⟩, .slice none 0 0, .slice none 0 0]), 6, 96) by kernel_rfl)
  exact ⟨i0, Try.underlying38, hi, hz0, hz1, hz2, rfl, by decide⟩
set_option maxRecDepth 60000 in
set_option maxHeartbeats 4000000 in
/-- Pull of a lane without markers -/
theorem pull_none (w : World) (Z : Nat → Prop) (b : Nat) (L : Ln) (hI : LnI w Z b L) (hn : nR L.q = L.q.length) : Calls Try.prog 11 #[.pointer (some ⟨b, 0, none⟩)] w fun e w' => e = .returned (.tuple #[.int .i64 0, .slice none 0 0]) ∧ Below w.heap.size w w' := by
  have HC : Hid (∀ W, Below w.heap.size w W → Calls Try.prog 32 #[.pointer (some ⟨b, 0, none⟩)] W fun e w' => e = .returned (.int .i64 (L.q.length : Int)) ∧ w' = W) := fun W hW => count_any W Z b L (hI.below hW)
  have c1 := hI.c1
  rw [hn] at c1
  have bl := hI.b_lt
  have hd : ((L.q.length : Int) == (L.q.length : Int)) = true := by simp
  clear hI hn
  go_enter Try.func11, Try.ntmps11
  go_upto_region 1 with fail
  refine wp_region_calmE 30 (fun wx => Below w.heap.size w wx) [(0, true), (2, true), (3, true), (4, true), (5, false)] (.one 1 true [(6, true)] .done) (by kernel_rfl) (by kernel_rfl) (Below.refl _ _).drew ?_
  refine wpPre_e rfl rfl (fun K1 hK1 => ?_)
  apply Exists.intro
  refine And.intro (fun wx hx => ?_) ?_
  · go_simp
    try rfl
  go_simp
  refine hK1 _ ?_
  clear hK1 K1
  refine wpPre_e rfl rfl (fun K1 hK1 => ?_)
  apply Exists.intro
  refine And.intro (fun wx hx => ?_) ?_
  · go_simp
    try rfl
  go_simp
  refine hK1 _ ?_
  clear hK1 K1
  refine wpPre_e rfl rfl (fun K1 hK1 => ?_)
  apply Exists.intro
  refine And.intro (fun wx hx => ?_) ?_
  · go_simp
    try rfl
  go_simp
  refine hK1 _ ?_
  clear hK1 K1
  refine wpPre_e rfl rfl (fun K1 hK1 => ?_)
  apply Exists.intro
  refine And.intro (fun wx hx => ?_) ?_
  · go_simp
    try rfl
  go_simp
  refine hK1 _ ?_
  clear hK1 K1
  refine wpPre_e rfl rfl (fun K1 hK1 => ?_)
  apply Exists.intro
  refine And.intro (fun wx hx => ?_) ?_
  · have e0 := below_fact hx rfl c1
    go_simp
    try rfl
  go_simp
  refine hK1 _ ?_
  clear hK1 K1
  refine wpPre_nil ?_
  refine wpTr_e rfl (fun K1 hK1 => ?_)
  refine step_call rfl 32 #[.tmp 8] _ rfl Try.f32 Try.func32 (by kernel_rfl) rfl #[.pointer (some ⟨b, 0, none⟩)] rfl _ (HC.out _ (Below.refl _ _).drew) (fun e w4 h4 => ?_)
  obtain ⟨rfl, rfl⟩ := h4
  refine ⟨_, rfl, ?_⟩
  go_simp
  refine hK1 _ _ (fun _ => (Below.refl _ _).drew) ?_
  clear hK1 K1
  refine wpPre_e rfl rfl (fun K1 hK1 => ?_)
  apply Exists.intro
  refine And.intro (fun wx hx => ?_) ?_
  · go_simp
    try rfl
  go_simp
  refine hK1 _ ?_
  clear hK1 K1
  refine wpPre_nil ?_
  refine wpTr_done ?_
  go_wp2
  refine bodyPost_ret (v := .tuple #[.int .i64 0, .slice none 0 0]) (by simp [results, Try.results11, go_sem]) rfl ⟨rfl, (Below.refl _ _).drew⟩
/-- what Pull answers and leaves -/
structure PlQ (w : World) (Z : Nat → Prop) (b : Nat) (L : Ln) (A : List IT) (B : List IT) (u : LT RT) (w' : World) : Prop where
  set : ∃ ch cap, LSet w Z b L w' ⟨L.room, none, ch, cap, A ++ B⟩
  n : u.n = A.length
  each : ∀ j x, A[j]? = some x → RT.Alike x.r (u.item j)
  in_ : LT.In elRec w' (fun k => (w.heap.size ≤ k ∧ ¬ Z k) ∧ ¬ L.C b k) u
structure PlR (w : World) (Z : Nat → Prop) (b : Nat) (L : Ln) (A : List IT) (m : IT) (B : List IT) (j : Nat) (mk v : Value) (wr : World) : Prop where
  st : ∃ L' n g, LSet w Z b L wr L' ∧ GL elRec w.heap.size (fun k => w.heap.size ≤ k) wr Z b L' v n g ∧ L'.q = pullQ A m B j ∧ (j = 0 → L'.next = L.next) ∧ (0 < j → L'.next = none) ∧ mk = .int .i64 (if j ≤ A.length then 0 else m.mark) ∧ n = min j A.length ∧ ∀ i x, i < n → A[i]? = some x → RT.Alike x.r (g i)
set_option maxRecDepth 60000 in
set_option maxHeartbeats 8000000 in
/-- Pull of a lane with a marker -/
theorem pull_some (w : World) (Z : Nat → Prop) (b : Nat) (L : Ln) (hI : LnI w Z b L) (hZ : ∀ k, Z k → k < w.heap.size) (A : List IT) (m : IT) (B : List IT) (hq : L.q = A ++ m :: B) (hA : ∀ x ∈ A, x.mark = 0) (hm : m.mark ≠ 0) :
    Calls Try.prog 11 #[.pointer (some ⟨b, 0, none⟩)] w fun e w' => ∃ u : LT RT, e = .returned (.tuple #[.int .i64 m.mark, .slice u.p u.n u.c]) ∧ PlQ w Z b L A B u w' := by
  obtain ⟨i0, Kd⟩ := kindRs
  have HKd := hid Kd
  have HC : Hid (∀ W, Below w.heap.size w W → Calls Try.prog 32 #[.pointer (some ⟨b, 0, none⟩)] W fun e w' => e = .returned (.int .i64 (L.q.length : Int)) ∧ w' = W) := fun W hW => count_any W Z b L (hI.below hW)
  have hlen : L.q.length = A.length + 1 + B.length := by rw [hq]; simp; omega
  have hnr : nR L.q < L.q.length := by
    rw [hq, nR_append, nR_cons1 B hm]
    have := nR_le A
    have := nR_le B
    simp
    omega
  have c1 := hI.c1
  have bl := hI.b_lt
  have hl30 := hI.len
  have hd : ((L.q.length : Int) == (nR L.q : Int)) = false := by simp; omega
  have H0 : Hid (PlR w Z b L A m B 0 (.int .i64 0) (.slice none 0 0) w.drew) := by
    have h1 : Below w.heap.size w w.drew := (Below.refl _ _).drew
    exact ⟨L, 0, fun _ => rz, LSet.below hI h1, GL.nil (hI.below h1) _, by rw [hq, pullQ_0], fun _ => rfl, fun h => absurd h (Nat.lt_irrefl 0), by simp, by simp, fun i x hi => absurd hi (Nat.not_lt_zero i)⟩
  have HI := hid hI
  have HZ := hid hZ
  have HQ := hid hq
  have HA := hid hA
  have HM := hid hm
  have HLn := hid hlen
  clear hI hZ hq hA hm hnr hlen Kd
  go_enter Try.func11, Try.ntmps11
  go_upto_region 1 with fail
  refine wp_region_calmE 30 (fun wx => Below w.heap.size w wx) [(0, true), (2, true), (3, true), (4, true), (5, false)] (.one 1 true [(6, true)] .done) (by kernel_rfl) (by kernel_rfl) (Below.refl _ _).drew ?_
  refine wpPre_e rfl rfl (fun K1 hK1 => ?_)
  apply Exists.intro
  refine And.intro (fun wx hx => ?_) ?_
  · go_simp
    try rfl
  go_simp
  refine hK1 _ ?_
  clear hK1 K1
  refine wpPre_e rfl rfl (fun K1 hK1 => ?_)
  apply Exists.intro
  refine And.intro (fun wx hx => ?_) ?_
  · go_simp
    try rfl
  go_simp
  refine hK1 _ ?_
  clear hK1 K1
  refine wpPre_e rfl rfl (fun K1 hK1 => ?_)
  apply Exists.intro
  refine And.intro (fun wx hx => ?_) ?_
  · go_simp
    try rfl
  go_simp
  refine hK1 _ ?_
  clear hK1 K1
  refine wpPre_e rfl rfl (fun K1 hK1 => ?_)
  apply Exists.intro
  refine And.intro (fun wx hx => ?_) ?_
  · go_simp
    try rfl
  go_simp
  refine hK1 _ ?_
  clear hK1 K1
  refine wpPre_e rfl rfl (fun K1 hK1 => ?_)
  apply Exists.intro
  refine And.intro (fun wx hx => ?_) ?_
  · have e0 := below_fact hx rfl c1
    go_simp
    try rfl
  go_simp
  refine hK1 _ ?_
  clear hK1 K1
  refine wpPre_nil ?_
  refine wpTr_e rfl (fun K1 hK1 => ?_)
  refine step_call rfl 32 #[.tmp 8] _ rfl Try.f32 Try.func32 (by kernel_rfl) rfl #[.pointer (some ⟨b, 0, none⟩)] rfl _ (HC.out _ (Below.refl _ _).drew) (fun e w4 h4 => ?_)
  obtain ⟨rfl, rfl⟩ := h4
  refine ⟨_, rfl, ?_⟩
  go_simp
  refine hK1 _ _ (fun _ => (Below.refl _ _).drew) ?_
  clear hK1 K1
  refine wpPre_e rfl rfl (fun K1 hK1 => ?_)
  apply Exists.intro
  refine And.intro (fun wx hx => ?_) ?_
  · go_simp
    try rfl
  go_simp
  refine hK1 _ ?_
  clear hK1 K1
  refine wpPre_nil ?_
  refine wpTr_done ?_
  clear hd
  go_wp2_with fail
  refine (HC.out _ (Below.refl _ _).drew).mono ?_
  rintro e w4 ⟨rfl, rfl⟩
  clear HC c1 bl
  rw [HLn.out]
  rw [HLn.out] at hl30
  obtain ⟨T, hT⟩ : ∃ T, T = A.length + 1 + B.length := ⟨_, rfl⟩
  rw [← hT] at hl30 ⊢
  have HTt := hid hT
  clear hT
  go_wp2_with fail
  go_loopw [17, 4, 5] (fun x mk v wr => ∃ j : Nat, x = .int .i64 (j : Int) ∧ j ≤ T ∧ PlR w Z b L A m B j mk v wr) (fun x _ _ _ => T - (intOf x).toNat)
  case atStart => exact ⟨0, rfl, Nat.zero_le _, H0.out⟩
  case round =>
    obtain ⟨j, rfl, hj, L', n, g, hs, hg, hq1, hx0, hx1, rfl, hn, hal⟩ := hrel
    clear H0
    obtain ⟨v, hv⟩ : ∃ v, v = u5 := ⟨_, rfl⟩
    rw [← hv] at hg ⊢
    clear hv
    have HS := hid hs
    have HG := hid hg
    have HN := hid hn
    have HAl := hid hal
    have HZ2 : Hid (∀ k, (Z k ∨ v.ownBlock = some k) → k < wr.heap.size) := fun k hk => by
      rcases hk with e | e
      · have := HZ.out k e; have := hs.but.size; omega
      · exact (hg.own.lt k e).2
    have hws := hs.but.size
    have hlq : L'.q.length ≤ 30000 := hs.ln.len
    clear hs hg hal hn
    by_cases hlt : j < T
    case neg =>
      obtain rfl : j = T := by omega
      have hng : ¬ j ≤ A.length := by have := HTt.out; omega
      rw [if_neg hng]
      go_wp2
      obtain ⟨p, c, hv, hin⟩ := HG.out.in_ (by have := HN.out; omega)
      subst hv
      have hnA : n = A.length := by have := HN.out; have := HTt.out; omega
      refine bodyPost_ret (v := .tuple #[.int .i64 m.mark, .slice p n c]) (by simp [results, Try.results11, go_sem]) rfl ⟨⟨p, n, c, g⟩, rfl, ⟨⟨L'.ch, L'.cap, ?_⟩, hnA, fun i x hx => ?_, ?_⟩⟩
      · have h1 := HS.out
        rw [HTt.out, pullQ_end] at hq1
        have hnx := hx1 (by omega)
        have hL' : L' = ⟨L.room, none, L'.ch, L'.cap, A ++ B⟩ := by rw [← hq1, ← hnx, ← h1.room]
        rw [hL'] at h1
        exact h1
      · refine HAl.out i x ?_ hx
        rcases Nat.lt_or_ge i A.length with h | h
        · omega
        · rw [List.getElem?_eq_none h] at hx; cases hx
      · refine LT.In.mono hin fun k hk _ => ⟨⟨hk.2.elim id id, fun e => by have := HZ.out k e; have := hk.2.elim id id; omega⟩, fun e => ?_⟩
        have := HI.out.c_lt e
        have := hk.2.elim id id
        omega
    case pos =>
    have hlt' : (j : Int) < (T : Int) := by omega
    rcases Nat.lt_trichotomy j A.length with hjA | hjA | hjA
    · have hle : j ≤ A.length := by omega
      rw [if_pos hle]
      obtain ⟨x, hx⟩ : ∃ x, A[j]? = some x := ⟨_, List.getElem?_eq_getElem hjA⟩
      obtain ⟨q', e1, e2⟩ := pullQ_A A m B hx
      rw [e1] at hq1
      have hxm : x.mark = 0 := HA.out x (List.mem_of_getElem? hx)
      have HE := hid (And.intro e2 (And.intro hx hxm))
      have hm0 : (x.mark == 0) = true := by simp [hxm]
      have hjn : n = j := by have := HN.out; omega
      subst hjn
      clear hle e1 e2 hx hxm hx0 hx1
      have HTk := hid (take_some wr (fun k => Z k ∨ v.ownBlock = some k) b L' HG.out.ln x q' hq1)
      have hxq : x ∈ L'.q := by rw [hq1]; exact List.mem_cons_self
      have hxi := HG.out.ln.it x hxq
      have HXI := hid hxi
      have HQ1 := hid hq1
      clear hxi hxq hq1
      go_wp2_with fail
      refine HTk.out.mono ?_
      rintro e w1 ⟨rfl, ht⟩
      have HT := hid ht
      have HG1 := hid (HG.out.lane ht)
      have HX1 := hid (ht.keep elItem HXI.out.1)
      obtain ⟨W, hW⟩ : ∃ W, W = w1.alloc (.cells #[.int .i64 x.mark, .string x.r.key, .int .i64 x.r.v.kind, .int .i64 x.r.v.int, .string x.r.v.text, .slice x.r.v.p x.r.v.n x.r.v.c, .slice x.r.p x.r.n x.r.c] 35) := ⟨_, rfl⟩
      have hB : Below w1.heap.size w1 W := by rw [hW]; exact (Below.refl _ _).alloc (Nat.le_refl _) _
      have hX : Box W w1.heap.size #[.int .i64 x.mark, .string x.r.key, .int .i64 x.r.v.kind, .int .i64 x.r.v.int, .string x.r.v.text, .slice x.r.v.p x.r.v.n x.r.v.c, .slice x.r.p x.r.n x.r.c] 35 := by rw [hW]; exact Box.new _ _ _
      have HW := hid hW
      have HB := hid hB
      have HX := hid hX
      have HG2 := hid (HG1.out.below hB)
      have HX2 := hid (IT.In.below HX1.out hB)
      have HS2 := hid (LSet.trans (HS.out.trans (ht.z fun k hk => .inl hk)) (LSet.below (ht.z fun k hk => .inl hk).ln hB))
      have z0 := hX.cell 0
      have z1 := hX.cell 1
      have z2 := hX.cell 2
      have z3 := hX.cell 3
      have z4 := hX.cell 4
      have z5 := hX.cell 5
      have z6 := hX.cell 6
      simp at z0 z1 z2 z3 z4 z5 z6
      have zl := hX.lt
      clear ht hW hB hX HTk
      unfold IT.val
      have HIr := hid (isRec_any x W)
      rw [hm0] at HIr
      clear hm0
      go_upto_region 8 with fail
      rw [← HW.out]
      go_wp2_with fail
      refine HIr.out.mono ?_
      rintro e w2 ⟨rfl, hB2⟩
      have hX2 := HX.out.below hB2
      have y0 := hX2.cell 0
      have y1 := hX2.cell 1
      have y2 := hX2.cell 2
      have y3 := hX2.cell 3
      have y4 := hX2.cell 4
      have y5 := hX2.cell 5
      have y6 := hX2.cell 6
      simp at y0 y1 y2 y3 y4 y5 y6
      have HF := hid (freshR x.r w2 _ (IT.In.below HX2.out hB2).r HXI.out.2.sz)
      have HX22 := hid (IT.In.below HX2.out hB2)
      have HG22 := hid (HG2.out.below hB2)
      have HS22 := hid (LSet.trans HS2.out (LSet.below HS2.out.ln hB2))
      have hs2 := hB2.size
      have HBx2 := hid hX2
      clear z0 z1 z2 z3 z4 z5 z6 hB2 hX2 HIr
      go_wp2_with fail
      refine HF.out.mono ?_
      rintro e w3 ⟨u, rfl, hal3, hin3, hB3⟩
      have HG3 := hid (HG22.out.below hB3)
      have HS3 := hid (LSet.trans HS22.out (LSet.below HS22.out.ln hB3))
      have HX3 := hid (IT.In.below HX22.out hB3)
      have HBx3 := hid (HBx2.out.below hB3)
      have HU : Hid (RT.In w3 (fun k => ¬ (Ln.mk L'.room none L'.ch L'.cap q').C b k ∧ w.heap.size ≤ k ∧ v.ownBlock ≠ some k) u) := hin3.mono fun k hk _ => ⟨fun e => by have := HG22.out.ln.c_lt e; omega, by have := HS22.out.but.size; omega, fun e => by have := (HG22.out.own.lt k e).2; omega⟩
      have HAl3 := hid hal3
      have ha : Below w3.heap.size w3 (w3.alloc (.cells #[.string u.key, .int .i64 u.v.kind, .int .i64 u.v.int, .string u.v.text, .slice u.v.p u.v.n u.v.c, .slice u.p u.n u.c] 33)) := (Below.refl _ _).alloc (Nat.le_refl _) _
      have HAa := hid ha
      have hsz : w.heap.size ≤ w3.heap.size := HS3.out.but.size
      have HNw : Hid (∀ j u', (elRec.cells u)[j]? = some u' → (w3.alloc (.cells #[.string u.key, .int .i64 u.v.kind, .int .i64 u.v.int, .string u.v.text, .slice u.v.p u.v.n u.v.c, .slice u.p u.n u.c] 33)).cell? ((⟨w3.heap.size, 0, none⟩ : Addr).add j) = some u') := by
        intro j u' hu
        rw [Go.WideShapes.add_plain, (Box.new w3 #[.string u.key, .int .i64 u.v.kind, .int .i64 u.v.int, .string u.v.text, .slice u.v.p u.v.n u.v.c, .slice u.p u.n u.c] 33).cell]
        rw [show 0 + j = j by omega]
        simpa [elRec, RT.cells] using hu
      clear hal3 hin3 hB3 ha HF y0
      go_wp2_with (at_builtin; refine wpList_app rfl (.tmp 35) (.tmp 39) 38 33 i0 _ 6 96 HKd.out rfl w.heap.size v n _ rfl (HG3.out.own.alloc _) ⟨w3.heap.size, 0, none⟩ 1 1 (elRec.cells u) rfl rfl HNw.out (elRec.one u) (by omega) (by omega) (by simp; omega) ?_)
      intro v4 w4 ho4 hg4 hn4
      have hB4 := HAa.out
      have HG4 := hid ((HG3.out.below hB4).push (elRec.kept HU.out hB4.size fun k _ hl => hB4.block k hl) ho4 hg4 hn4)
      have hbt4 : But (fun k => v.ownBlock = some k) w3 w4 := (But.ofBelow hB4).trans ((But.refl _ _).grown hg4 fun k hk _ => hk)
      have hown3 := HG3.out.own
      have HS4 := hid (LSet.row HS3.out hbt4 (fun k hk => (hown3.lt k hk).1) (HG4.out.ln.z fun k _ hk => .inl hk))
      have hx4 : IT.In w4 (fun k => ¬ (Ln.mk L'.room none L'.ch L'.cap q').C b k ∧ ¬ (Z k ∨ v4.ownBlock = some k)) x := by
        have h3 : IT.In w3 (fun k => (¬ (Ln.mk L'.room none L'.ch L'.cap q').C b k ∧ ¬ (Z k ∨ v.ownBlock = some k)) ∧ v4.ownBlock ≠ some k) x := HX3.out.mono fun k hk hl => ⟨hk, fun e => by
          rcases hn4 with h1 | h1
          · exact hk.2 (.inr (h1 ▸ e))
          · have := h1 k e
            simp at this
            omega⟩
        refine (h3.kept hbt4.size fun k hk hl => hbt4.block k hl fun e => hk.1.2 (.inr e)).mono fun k hk _ => ⟨hk.1.1, fun e => ?_⟩
        rcases e with e | e
        · exact hk.1.2 (.inl e)
        · exact hk.2 e
      have hBx4 : Box w4 w1.heap.size _ _ := HBx3.out.but hbt4 fun e => by have := (HG.out.own.lt _ e).2; have := HT.out.but.size; omega
      have q0 := hBx4.cell 0
      have q1 := hBx4.cell 1
      have q2 := hBx4.cell 2
      have q3 := hBx4.cell 3
      have q4 := hBx4.cell 4
      have q5 := hBx4.cell 5
      have q6 := hBx4.cell 6
      simp at q0 q1 q2 q3 q4 q5 q6
      have ql := hBx4.lt
      have HLy := hid (lay_any w4 (fun k => Z k ∨ v4.ownBlock = some k) b _ x HG4.out.ln (fun k hk => by
        rcases hk with e | e
        · have := HZ.out k e; have := hbt4.size; omega
        · exact (HG4.out.own.lt k e).2) hx4 HXI.out.2 (by show q'.length < 30000; have h9 := HQ1.out; rw [h9] at hlq; simp at hlq; omega))
      clear ho4 hg4 hn4 hB4 hbt4 hown3 hx4 hBx4 HNw HAa
      go_wp2_with fail
      refine HLy.out.mono ?_
      rintro e w5 ⟨rfl, ch5, cap5, hly⟩
      have HR5 : Hid (PlR w Z b L A m B (n + 1) (.int .i64 0) v4 w5) := by
        refine ⟨⟨L'.room, none, ch5, cap5, q' ++ [x]⟩, n + 1, fun i => if i < n then g i else u, LSet.trans HS4.out (hly.z fun k hk => .inl hk), HG4.out.lane hly, HE.out.1.symm, fun h => absurd h (by omega), fun _ => rfl, by rw [if_pos (by omega)], by omega, fun i y hi hy => ?_⟩
        show RT.Alike y.r (if i < n then g i else u)
        by_cases hin : i < n
        · rw [if_pos hin]; exact HAl.out i y hin hy
        · rw [if_neg hin]
          obtain rfl : i = n := by omega
          have := HE.out.2.1
          rw [hy] at this
          injection this with this
          rw [this]
          exact HAl3.out
      clear hly HLy
      go_wp2_with fail
      go_roundw
      case rel => exact ⟨n + 1, by go_num, by omega, HR5.out⟩
      case measure => simp [intOf]; omega
    · have hle : j ≤ A.length := by omega
      rw [if_pos hle]
      subst hjA
      obtain ⟨e1, e2⟩ := pullQ_m A m B
      rw [e1] at hq1
      obtain ⟨x, hx⟩ : ∃ x, x = m := ⟨_, rfl⟩
      obtain ⟨q', hqq⟩ : ∃ q', q' = B ++ A := ⟨_, rfl⟩
      rw [← hx, ← hqq] at hq1
      rw [← hqq] at e2
      have HE := hid (And.intro e2 hx)
      have hm0 : (x.mark == 0) = false := by rw [hx]; simp; exact HM.out
      clear hle e1 e2 hqq hx hx0 hx1
      have HTk := hid (take_some wr (fun k => Z k ∨ v.ownBlock = some k) b L' HG.out.ln x q' hq1)
      have hxq : x ∈ L'.q := by rw [hq1]; exact List.mem_cons_self
      have hxi := HG.out.ln.it x hxq
      have HXI := hid hxi
      have HQ1 := hid hq1
      clear hxi hxq hq1
      go_wp2_with fail
      refine HTk.out.mono ?_
      rintro e w1 ⟨rfl, ht⟩
      have HT := hid ht
      have HG1 := hid (HG.out.lane ht)
      have HX1 := hid (ht.keep elItem HXI.out.1)
      obtain ⟨W, hW⟩ : ∃ W, W = w1.alloc (.cells #[.int .i64 x.mark, .string x.r.key, .int .i64 x.r.v.kind, .int .i64 x.r.v.int, .string x.r.v.text, .slice x.r.v.p x.r.v.n x.r.v.c, .slice x.r.p x.r.n x.r.c] 35) := ⟨_, rfl⟩
      have hB : Below w1.heap.size w1 W := by rw [hW]; exact (Below.refl _ _).alloc (Nat.le_refl _) _
      have hX : Box W w1.heap.size #[.int .i64 x.mark, .string x.r.key, .int .i64 x.r.v.kind, .int .i64 x.r.v.int, .string x.r.v.text, .slice x.r.v.p x.r.v.n x.r.v.c, .slice x.r.p x.r.n x.r.c] 35 := by rw [hW]; exact Box.new _ _ _
      have HW := hid hW
      have HB := hid hB
      have HX := hid hX
      have HG2 := hid (HG1.out.below hB)
      have HX2 := hid (IT.In.below HX1.out hB)
      have HS2 := hid (LSet.trans (HS.out.trans (ht.z fun k hk => .inl hk)) (LSet.below (ht.z fun k hk => .inl hk).ln hB))
      have z0 := hX.cell 0
      have z1 := hX.cell 1
      have z2 := hX.cell 2
      have z3 := hX.cell 3
      have z4 := hX.cell 4
      have z5 := hX.cell 5
      have z6 := hX.cell 6
      simp at z0 z1 z2 z3 z4 z5 z6
      have zl := hX.lt
      clear ht hW hB hX HTk
      unfold IT.val
      have HIr := hid (isRec_any x W)
      rw [hm0] at HIr
      clear hm0
      go_upto_region 8 with fail
      rw [← HW.out]
      go_wp2_with fail
      refine HIr.out.mono ?_
      rintro e w2 ⟨rfl, hB2⟩
      have hX2 := HX.out.below hB2
      have y0 := hX2.cell 0
      have y1 := hX2.cell 1
      have y2 := hX2.cell 2
      have y3 := hX2.cell 3
      have y4 := hX2.cell 4
      have y5 := hX2.cell 5
      have y6 := hX2.cell 6
      simp at y0 y1 y2 y3 y4 y5 y6
      have HR5 : Hid (PlR w Z b L A m B (A.length + 1) (.int .i64 x.mark) v w2) := by
        refine ⟨⟨L'.room, none, L'.ch, L'.cap, q'⟩, n, g, LSet.trans HS2.out (LSet.below HS2.out.ln hB2), HG2.out.below hB2, HE.out.1.symm, fun h => absurd h (by omega), fun _ => rfl, by rw [if_neg (by omega), HE.out.2], by have := HN.out; omega, HAl.out⟩
      clear z0 z1 z2 z3 z4 z5 z6 hB2 hX2 HIr
      go_wp2_with fail
      go_roundw
      case rel => exact ⟨A.length + 1, by go_num, by have := HTt.out; omega, HR5.out⟩
      case measure => simp [intOf]; omega
    · have hng : ¬ j ≤ A.length := by omega
      rw [if_neg hng]
      obtain ⟨i, hi⟩ : ∃ i, j = A.length + 1 + i := ⟨j - A.length - 1, by omega⟩
      have hiB : i < B.length := by have := HTt.out; omega
      obtain ⟨x, hx⟩ : ∃ x, B[i]? = some x := ⟨_, List.getElem?_eq_getElem hiB⟩
      obtain ⟨q', e1, e2⟩ := pullQ_B A m B hx
      rw [← hi] at e1 e2
      rw [e1] at hq1
      have HE := hid e2
      have hmm : (m.mark == 0) = false := by simp; exact HM.out
      have HMi := hid (HG.out.ln.len)
      clear hng e1 e2 hx hx0 hx1 hi
      have HTk := hid (take_some wr (fun k => Z k ∨ v.ownBlock = some k) b L' HG.out.ln x q' hq1)
      have hxq : x ∈ L'.q := by rw [hq1]; exact List.mem_cons_self
      have hxi := HG.out.ln.it x hxq
      have HXI := hid hxi
      have HQ1 := hid hq1
      clear hxi hxq hq1
      go_wp2_with fail
      refine HTk.out.mono ?_
      rintro e w1 ⟨rfl, ht⟩
      have HT := hid ht
      have HG1 := hid (HG.out.lane ht)
      have HX1 := hid (ht.keep elItem HXI.out.1)
      obtain ⟨W, hW⟩ : ∃ W, W = w1.alloc (.cells #[.int .i64 x.mark, .string x.r.key, .int .i64 x.r.v.kind, .int .i64 x.r.v.int, .string x.r.v.text, .slice x.r.v.p x.r.v.n x.r.v.c, .slice x.r.p x.r.n x.r.c] 35) := ⟨_, rfl⟩
      have hB : Below w1.heap.size w1 W := by rw [hW]; exact (Below.refl _ _).alloc (Nat.le_refl _) _
      have hX : Box W w1.heap.size #[.int .i64 x.mark, .string x.r.key, .int .i64 x.r.v.kind, .int .i64 x.r.v.int, .string x.r.v.text, .slice x.r.v.p x.r.v.n x.r.v.c, .slice x.r.p x.r.n x.r.c] 35 := by rw [hW]; exact Box.new _ _ _
      have HW := hid hW
      have HB := hid hB
      have HX := hid hX
      have HG2 := hid (HG1.out.below hB)
      have HX2 := hid (IT.In.below HX1.out hB)
      have HS2 := hid (LSet.trans (HS.out.trans (ht.z fun k hk => .inl hk)) (LSet.below (ht.z fun k hk => .inl hk).ln hB))
      have z0 := hX.cell 0
      have z1 := hX.cell 1
      have z2 := hX.cell 2
      have z3 := hX.cell 3
      have z4 := hX.cell 4
      have z5 := hX.cell 5
      have z6 := hX.cell 6
      simp at z0 z1 z2 z3 z4 z5 z6
      have zl := hX.lt
      clear ht hW hB hX HTk
      unfold IT.val
      go_upto_region 8 with fail
      rw [← HW.out]
      have HLy := hid (lay_any W (fun k => Z k ∨ v.ownBlock = some k) b _ x HG2.out.ln (fun k hk => by have := HZ2.out k hk; have := HT.out.but.size; have := HB.out.size; omega) HX2.out HXI.out.2 (by show q'.length < 30000; have h9 := HQ1.out; rw [h9] at hlq; simp at hlq; omega))
      go_wp2_with fail
      refine HLy.out.mono ?_
      rintro e w5 ⟨rfl, ch5, cap5, hly⟩
      have HR5 : Hid (PlR w Z b L A m B (j + 1) (.int .i64 m.mark) v w5) := by
        refine ⟨⟨L'.room, none, ch5, cap5, q' ++ [x]⟩, n, g, LSet.trans HS2.out (hly.z fun k hk => .inl hk), HG2.out.lane hly, HE.out.symm, fun h => absurd h (by omega), fun _ => rfl, by rw [if_neg (by omega)], by have := HN.out; omega, HAl.out⟩
      clear hly HLy
      go_wp2_with fail
      go_roundw
      case rel => exact ⟨j + 1, by go_num, by omega, HR5.out⟩
      case measure => simp [intOf]; omega
end Go.Proofs.Ytpldokahoamdpaa
