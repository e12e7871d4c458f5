import Derived.Test.YtdpfgflofjiheaaZr
namespace Go.Proofs.Ytdpfgflofjiheaa
open Go.RowKit
set_option maxRecDepth 8000
theorem InRow.src {b : Nat} {w : World} {p : Option Addr} {n c : Nat} {xs : List Int} (h : InRow b w (.slice p n c) xs) : n = xs.length ∧ Src w p n c 1 (xs.flatMap elInt.cells) := by
  have hce := @World.ownsRow.cells _ _ _ _ _ _ _ h
  obtain ⟨hl, ⟨hv, h0⟩ | ⟨gb, cap, cur, hv, hbg, hh, hc, _⟩⟩ := id h
  · cases hv
    obtain rfl : xs = [] := List.eq_nil_of_length_eq_zero h0
    exact ⟨rfl, .inl ⟨rfl, rfl, rfl, rfl⟩⟩
  · cases hv
    exact ⟨rfl, .inr ⟨⟨gb, 0, none⟩, rfl, hl, fun j u hu => hce (g := gb) rfl j u hu⟩⟩
theorem oneInts (xs : List Int) : ∀ u ∈ xs.flatMap elInt.cells, u.oneCell' = true := by
  intro u hu
  obtain ⟨j, _, hj⟩ := List.mem_flatMap.1 hu
  exact elInt.one _ u hj
theorem step_appS {ops : Array Oper} {o : Oper} {a : Act} {w : World} {K : Act → World → Prop} {Q : Exit → Act → World → Prop} {E : Prop}
    (hgd : o.guard = none) (s x : Operand) (t e : TypeId) (i : TypeInfo) (z : Value) (size bytes : Nat) (Kd : Kind t e i z size bytes) (hop : o.op = Op.call { callee := Callee.builtin Builtin.append, args := #[s, x], argTypes := #[t, t] })
    (base : Nat) (v : Value) (n : Nat) (xs : List Value) (hs : a.eval s = v) (hown : w.ownsRow base e size v n xs)
    (p : Option Addr) (m c : Nat) (news : List Value) (hx : a.eval x = .slice p m c) (hsrc : Src w p m c size news) (h1 : ∀ u ∈ news, u.oneCell' = true)
    (h63 : n + m ≤ 140737488355328) (hbytes : (n + m) * bytes ≤ 140737488355328) (hbase : base ≤ w.heap.size)
    (hK : ∀ v' w', w'.ownsRow base e size v' (n + m) (xs ++ news) → w.grownBy w' v.ownBlock → Near w v v' → K (a.put o.dst v') w') :
    if Region.wanted o (yielded ops a.tmps) = true then Oper.wp Try.prog o a w K Q else E := by
  rcases hsrc with ⟨rfl, rfl, rfl, rfl⟩ | ⟨ad, rfl, hl, hnews⟩
  · have hw : Region.wanted o (yielded ops a.tmps) = true := by simp [Region.wanted, hgd]
    rw [if_pos hw]
    have hrun := run_append_owned_none (P := Try.prog) (w := w) base t o.type e i size Kd.ht Kd.hi v n xs hown
    unfold Oper.wp
    simp [execOp, hop, resolve, invoke, builtin, hs, hx, hrun, Result.andThen]
    exact hK v w (by simpa using hown) ⟨rfl, rfl, rfl, Nat.le_refl _, fun _ _ _ => rfl⟩ (.inl rfl)
  · exact step_app hgd s x t e i z size bytes Kd hop base v n xs hs hown ad m c news hx hl hnews h1 h63 hbytes hbase hK
theorem Src.below {w w' : World} {p : Option Addr} {n c size : Nat} {xs : List Value} (h : Src w p n c size xs) (hb : Below w.heap.size w w') : Src w' p n c size xs := by
  rcases h with h | ⟨ad, h1, h2, h3⟩
  · exact .inl h
  · refine .inr ⟨ad, h1, h2, fun j u hu => ?_⟩
    have h4 := h3 j u hu
    rw [hb.cell (block_lt_of_cell h4)]
    exact h4
set_option maxHeartbeats 8000000 in
/-- answers of the same contents are the same -/
theorem same_any (X Y : An) (w : World) (S T : Nat → Prop) (hX : AnI w S X) (hY : AnI w T Y) (hlk : X.like Y) :
    Calls Try.prog 22 #[X.val, Y.val] w fun e w' => e = .returned (.bool true) ∧ Below w.heap.size w w' := by
  obtain ⟨va, vb, vc, vp, a, b, c, p, e, f, h⟩ := X
  obtain ⟨ua, ub, uc, up, a', b', c', p', e', f', h'⟩ := Y
  obtain ⟨k1, k2, k3, k4, k5, k6, k7⟩ := hlk
  dsimp only at k1 k2 k3 k4 k5 k6 k7
  subst k1 k2 k3 k4 k5 k6 k7
  obtain ⟨xp1, xc1, xe1⟩ := ownsRow_slice hX.ra
  obtain ⟨xp2, xc2, xe2⟩ := ownsRow_slice hX.rb
  obtain ⟨xp3, xc3, xe3⟩ := ownsRow_slice hX.rc
  obtain ⟨xp4, xc4, xe4⟩ := ownsRow_slice hX.rp
  obtain ⟨yp1, yc1, ye1⟩ := ownsRow_slice hY.ra
  obtain ⟨yp2, yc2, ye2⟩ := ownsRow_slice hY.rb
  obtain ⟨yp3, yc3, ye3⟩ := ownsRow_slice hY.rc
  obtain ⟨yp4, yc4, ye4⟩ := ownsRow_slice hY.rp
  dsimp only at xe1 xe2 xe3 xe4 ye1 ye2 ye3 ye4
  subst xe1 xe2 xe3 xe4 ye1 ye2 ye3 ye4
  have hla := hX.ll.1
  have hlb := hX.ll.2.1
  have hlc := hX.ll.2.2.1
  have hlp := hX.ll.2.2.2
  dsimp only at hla hlb hlc hlp
  obtain ⟨W0, hW0⟩ : ∃ W0, W0 = (w.alloc (.cells #[.slice xp1 a.length xc1, .slice xp2 b.length xc2, .slice xp3 c.length xc3, .slice xp4 p.length xc4, .int .i64 e, .int .i64 f, .int .i64 h] 51)).alloc (.cells #[.slice yp1 a.length yc1, .slice yp2 b.length yc2, .slice yp3 c.length yc3, .slice yp4 p.length yc4, .int .i64 e, .int .i64 f, .int .i64 h] 51) := ⟨_, rfl⟩
  have hB0 : Below w.heap.size w W0 := by rw [hW0]; exact below2 _ _ _
  have bA : Box W0 w.heap.size #[.slice xp1 a.length xc1, .slice xp2 b.length xc2, .slice xp3 c.length xc3, .slice xp4 p.length xc4, .int .i64 e, .int .i64 f, .int .i64 h] 51 := by rw [hW0]; exact (Box.new _ _ _).below (below1 _ _)
  have bB : Box W0 (w.heap.size + 1) #[.slice yp1 a.length yc1, .slice yp2 b.length yc2, .slice yp3 c.length yc3, .slice yp4 p.length yc4, .int .i64 e, .int .i64 f, .int .i64 h] 51 := by
    have h1 := Box.new (w.alloc (.cells #[.slice xp1 a.length xc1, .slice xp2 b.length xc2, .slice xp3 c.length xc3, .slice xp4 p.length xc4, .int .i64 e, .int .i64 f, .int .i64 h] 51)) #[.slice yp1 a.length yc1, .slice yp2 b.length yc2, .slice yp3 c.length yc3, .slice yp4 p.length yc4, .int .i64 e, .int .i64 f, .int .i64 h] 51
    rw [World.size_alloc] at h1
    rw [hW0]
    exact h1
  have HW0 := hid hW0
  have HB0 := hid hB0
  have HA := hid bA
  have HBx := hid bB
  have hX0 := hX.below hB0
  have hY0 := hY.below hB0
  have HX := hid hX0
  have HY := hid hY0
  have HS1 := hid (sameRows _ _ a W0 _ _ hX0.ra hY0.ra (by omega))
  have l1 := bA.lt
  have l2 := bB.lt
  have r4 := bA.cell 4
  have q4 := bB.cell 4
  have r5 := bA.cell 5
  have q5 := bB.cell 5
  have r6 := bA.cell 6
  have q6 := bB.cell 6
  have r0 := bA.cell 0
  have q0 := bB.cell 0
  simp at r4 q4 r5 q5 r6 q6 r0 q0
  have hee : (e == e) = true := by simp
  have hff : (f == f) = true := by simp
  have hhh : (h == h) = true := by simp
  clear hW0 hB0 bA bB hX0 hY0 hX hY
  unfold An.val An.cs
  dsimp only
  go_enter Try.func22, Try.ntmps22
  go_upto_region 1 with fail
  rw [← HW0.out]
  go_wp2_with fail
  refine HS1.out.mono ?_
  rintro er W1 ⟨rfl, hb1⟩
  have HA1 := hid (HA.out.below hb1)
  have HBx1 := hid (HBx.out.below hb1)
  have HX1 := hid (HX.out.below hb1)
  have HY1 := hid (HY.out.below hb1)
  have HB1 : Hid (Below w.heap.size w W1) := HB0.out.trans (hb1.mono HB0.out.size)
  have HS2 := hid (sameRows _ _ b W1 _ _ HX1.out.rb HY1.out.rb (by omega))
  have r11 := HA1.out.cell 1
  have q11 := HBx1.out.cell 1
  simp at r11 q11
  clear hb1 HS1 r4 r5 r6 r0 q4 q5 q6 q0 HX HY HA HBx
  have l11 := HA1.out.lt
  have l12 := HBx1.out.lt
  go_wp2_with fail
  refine HS2.out.mono ?_
  rintro er W2 ⟨rfl, hb2⟩
  have HA2 := hid (HA1.out.below hb2)
  have HBx2 := hid (HBx1.out.below hb2)
  have HX2 := hid (HX1.out.below hb2)
  have HY2 := hid (HY1.out.below hb2)
  have HB2 : Hid (Below w.heap.size w W2) := HB1.out.trans (hb2.mono HB1.out.size)
  have HS3 := hid (sameRows _ _ c W2 _ _ HX2.out.rc HY2.out.rc (by omega))
  have r22 := HA2.out.cell 2
  have q22 := HBx2.out.cell 2
  simp at r22 q22
  clear hb2 HS2 r11 q11 HX1 HY1 HA1 HBx1 l11 l12
  have l21 := HA2.out.lt
  have l22 := HBx2.out.lt
  go_wp2_with fail
  refine HS3.out.mono ?_
  rintro er W3 ⟨rfl, hb3⟩
  have HA3 := hid (HA2.out.below hb3)
  have HBx3 := hid (HBx2.out.below hb3)
  have HX3 := hid (HX2.out.below hb3)
  have HY3 := hid (HY2.out.below hb3)
  have HB3 : Hid (Below w.heap.size w W3) := HB2.out.trans (hb3.mono HB2.out.size)
  have HS4 := hid (sameInts_yes _ _ p W3 _ _ HX3.out.rp HY3.out.rp (by omega))
  have r33 := HA3.out.cell 3
  have q33 := HBx3.out.cell 3
  simp at r33 q33
  clear hb3 HS3 r22 q22 HX2 HY2 HA2 HBx2 l21 l22
  have l31 := HA3.out.lt
  have l32 := HBx3.out.lt
  go_wp2_with fail
  refine HS4.out.mono ?_
  rintro er W4 ⟨rfl, hb4⟩
  have HB4 : Hid (Below w.heap.size w W4) := HB3.out.trans (hb4.mono HB3.out.size)
  clear hb4 HS4
  go_wp2
  go_ret
  exact ⟨rfl, HB4.out⟩
set_option maxHeartbeats 8000000 in
/-- copies that share nothing -/
theorem kept_any (X : An) (w : World) (S : Nat → Prop) (hX : AnI w S X) :
    Calls Try.prog 21 #[X.val] w fun e w' => AnsQ (fun Y => Y.like X) w e w' := by
  obtain ⟨va, vb, vc, vp, a, b, c, p, e, f, h⟩ := X
  obtain ⟨xp1, xc1, xe1⟩ := ownsRow_slice hX.ra
  obtain ⟨xp2, xc2, xe2⟩ := ownsRow_slice hX.rb
  obtain ⟨xp3, xc3, xe3⟩ := ownsRow_slice hX.rc
  obtain ⟨xp4, xc4, xe4⟩ := ownsRow_slice hX.rp
  dsimp only at xe1 xe2 xe3 xe4
  subst xe1 xe2 xe3 xe4
  have hla := hX.ll.1
  have hlb := hX.ll.2.1
  have hlc := hX.ll.2.2.1
  have hlp := hX.ll.2.2.2
  dsimp only at hla hlb hlc hlp
  have HLL := hid hX.ll
  obtain ⟨i0, Kd⟩ := kindEv
  have HKd := hid Kd
  obtain ⟨i1, Ki⟩ := kindIn
  have HKi := hid Ki
  obtain ⟨W0, hW0⟩ : ∃ W0, W0 = (w.alloc (.cells #[.slice xp1 a.length xc1, .slice xp2 b.length xc2, .slice xp3 c.length xc3, .slice xp4 p.length xc4, .int .i64 e, .int .i64 f, .int .i64 h] 51)).alloc (.cells #[.slice none 0 0, .slice none 0 0, .slice none 0 0, .slice none 0 0, .int .i64 0, .int .i64 0, .int .i64 0] 51) := ⟨_, rfl⟩
  have hB0 : Below w.heap.size w W0 := by rw [hW0]; exact below2 _ _ _
  have hs0 : W0.heap.size = w.heap.size + 2 := by rw [hW0]; simp
  have bA : Box W0 w.heap.size #[.slice xp1 a.length xc1, .slice xp2 b.length xc2, .slice xp3 c.length xc3, .slice xp4 p.length xc4, .int .i64 e, .int .i64 f, .int .i64 h] 51 := by rw [hW0]; exact (Box.new _ _ _).below (below1 _ _)
  have bR : Box W0 (w.heap.size + 1) #[.slice none 0 0, .slice none 0 0, .slice none 0 0, .slice none 0 0, .int .i64 0, .int .i64 0, .int .i64 0] 51 := by
    have h1 := Box.new (w.alloc (.cells #[.slice xp1 a.length xc1, .slice xp2 b.length xc2, .slice xp3 c.length xc3, .slice xp4 p.length xc4, .int .i64 e, .int .i64 f, .int .i64 h] 51)) #[.slice none 0 0, .slice none 0 0, .slice none 0 0, .slice none 0 0, .int .i64 0, .int .i64 0, .int .i64 0] 51
    rw [World.size_alloc] at h1
    rw [hW0]
    exact h1
  have HW0 := hid hW0
  have HB0 := hid hB0
  have HS0 := hid hs0
  have HR0 := hid bR
  have hX0 := hX.below hB0
  have HSr1 := hid (EvRow.src hX0.ra).2
  have HSs2 := hid (EvRow.src hX0.rb).2
  have HSs3 := hid (EvRow.src hX0.rc).2
  have HSs4 := hid (InRow.src hX0.rp).2
  dsimp only at HSr1 HSs2 HSs3 HSs4
  have lA := bA.lt
  have a0 := bA.cell 0
  have a1 := bA.cell 1
  have a2 := bA.cell 2
  have a3 := bA.cell 3
  have a4 := bA.cell 4
  have a5 := bA.cell 5
  have a6 := bA.cell 6
  simp at a0 a1 a2 a3 a4 a5 a6
  clear hW0 hB0 hs0 bA bR hX0 hX Kd Ki
  unfold An.val An.cs
  dsimp only
  go_enter Try.func21, Try.ntmps21
  go_upto_region 1 with fail
  rw [← HW0.out]
  refine wp_region_calmE 30 (fun wx => Below W0.heap.size W0 wx) [(0, true), (1, false), (3, true), (4, false), (6, true), (7, false), (9, true), (10, false), (12, true), (13, false), (14, true), (15, false), (16, true), (17, false)] (.one 2 true [] (.one 5 true [] (.one 8 true [] (.one 11 true [(18, true)] (.one 19 false [] .done))))) (by kernel_rfl) (by kernel_rfl) (Below.refl _ _).drew ?_
  refine wpPre_e rfl rfl (fun K1 hK1 => ?_)
  apply Exists.intro
  refine And.intro (fun wx hx => ?_) ?_
  · go_simp
    try rfl
  go_simp
  refine hK1 _ ?_
  clear hK1 K1
  refine wpPre_e rfl rfl (fun K1 hK1 => ?_)
  apply Exists.intro
  refine And.intro (fun wx hx => ?_) ?_
  · have e0 := below_fact hx rfl a0
    have e1 := below_fact hx rfl a1
    have e2 := below_fact hx rfl a2
    have e3 := below_fact hx rfl a3
    have e4 := below_fact hx rfl a4
    have e5 := below_fact hx rfl a5
    have e6 := below_fact hx rfl a6
    go_simp
    try rfl
  go_simp
  refine hK1 _ ?_
  clear hK1 K1
  refine wpPre_e rfl rfl (fun K1 hK1 => ?_)
  apply Exists.intro
  refine And.intro (fun wx hx => ?_) ?_
  · go_simp
    try rfl
  go_simp
  refine hK1 _ ?_
  clear hK1 K1
  refine wpPre_e rfl rfl (fun K1 hK1 => ?_)
  apply Exists.intro
  refine And.intro (fun wx hx => ?_) ?_
  · have e0 := below_fact hx rfl a0
    have e1 := below_fact hx rfl a1
    have e2 := below_fact hx rfl a2
    have e3 := below_fact hx rfl a3
    have e4 := below_fact hx rfl a4
    have e5 := below_fact hx rfl a5
    have e6 := below_fact hx rfl a6
    go_simp
    try rfl
  go_simp
  refine hK1 _ ?_
  clear hK1 K1
  refine wpPre_e rfl rfl (fun K1 hK1 => ?_)
  apply Exists.intro
  refine And.intro (fun wx hx => ?_) ?_
  · go_simp
    try rfl
  go_simp
  refine hK1 _ ?_
  clear hK1 K1
  refine wpPre_e rfl rfl (fun K1 hK1 => ?_)
  apply Exists.intro
  refine And.intro (fun wx hx => ?_) ?_
  · have e0 := below_fact hx rfl a0
    have e1 := below_fact hx rfl a1
    have e2 := below_fact hx rfl a2
    have e3 := below_fact hx rfl a3
    have e4 := below_fact hx rfl a4
    have e5 := below_fact hx rfl a5
    have e6 := below_fact hx rfl a6
    go_simp
    try rfl
  go_simp
  refine hK1 _ ?_
  clear hK1 K1
  refine wpPre_e rfl rfl (fun K1 hK1 => ?_)
  apply Exists.intro
  refine And.intro (fun wx hx => ?_) ?_
  · go_simp
    try rfl
  go_simp
  refine hK1 _ ?_
  clear hK1 K1
  refine wpPre_e rfl rfl (fun K1 hK1 => ?_)
  apply Exists.intro
  refine And.intro (fun wx hx => ?_) ?_
  · have e0 := below_fact hx rfl a0
    have e1 := below_fact hx rfl a1
    have e2 := below_fact hx rfl a2
    have e3 := below_fact hx rfl a3
    have e4 := below_fact hx rfl a4
    have e5 := below_fact hx rfl a5
    have e6 := below_fact hx rfl a6
    go_simp
    try rfl
  go_simp
  refine hK1 _ ?_
  clear hK1 K1
  refine wpPre_e rfl rfl (fun K1 hK1 => ?_)
  apply Exists.intro
  refine And.intro (fun wx hx => ?_) ?_
  · go_simp
    try rfl
  go_simp
  refine hK1 _ ?_
  clear hK1 K1
  refine wpPre_e rfl rfl (fun K1 hK1 => ?_)
  apply Exists.intro
  refine And.intro (fun wx hx => ?_) ?_
  · have e0 := below_fact hx rfl a0
    have e1 := below_fact hx rfl a1
    have e2 := below_fact hx rfl a2
    have e3 := below_fact hx rfl a3
    have e4 := below_fact hx rfl a4
    have e5 := below_fact hx rfl a5
    have e6 := below_fact hx rfl a6
    go_simp
    try rfl
  go_simp
  refine hK1 _ ?_
  clear hK1 K1
  refine wpPre_e rfl rfl (fun K1 hK1 => ?_)
  apply Exists.intro
  refine And.intro (fun wx hx => ?_) ?_
  · go_simp
    try rfl
  go_simp
  refine hK1 _ ?_
  clear hK1 K1
  refine wpPre_e rfl rfl (fun K1 hK1 => ?_)
  apply Exists.intro
  refine And.intro (fun wx hx => ?_) ?_
  · have e0 := below_fact hx rfl a0
    have e1 := below_fact hx rfl a1
    have e2 := below_fact hx rfl a2
    have e3 := below_fact hx rfl a3
    have e4 := below_fact hx rfl a4
    have e5 := below_fact hx rfl a5
    have e6 := below_fact hx rfl a6
    go_simp
    try rfl
  go_simp
  refine hK1 _ ?_
  clear hK1 K1
  refine wpPre_e rfl rfl (fun K1 hK1 => ?_)
  apply Exists.intro
  refine And.intro (fun wx hx => ?_) ?_
  · go_simp
    try rfl
  go_simp
  refine hK1 _ ?_
  clear hK1 K1
  refine wpPre_e rfl rfl (fun K1 hK1 => ?_)
  apply Exists.intro
  refine And.intro (fun wx hx => ?_) ?_
  · have e0 := below_fact hx rfl a0
    have e1 := below_fact hx rfl a1
    have e2 := below_fact hx rfl a2
    have e3 := below_fact hx rfl a3
    have e4 := below_fact hx rfl a4
    have e5 := below_fact hx rfl a5
    have e6 := below_fact hx rfl a6
    go_simp
    try rfl
  go_simp
  refine hK1 _ ?_
  clear hK1 K1
  refine wpPre_nil ?_
  refine wpTr_e rfl (fun K1 hK1 => ?_)
  refine step_appS rfl (.const (.slice none 0 0)) (.tmp 4) 31 39 i0 _ 2 16 HKd.out rfl W0.heap.size (.slice none 0 0) 0 [] rfl (World.ownsRow_nil _ _ _ _) xp1 a.length xc1 _ rfl HSr1.out (oneEv _) (by omega) (by omega) (Nat.le_refl _) ?_
  intro v1 w1 ho1 hg1 hn1
  rw [Nat.zero_add, List.nil_append] at ho1
  obtain ⟨zp1, zc1, ze1⟩ := ownsRow_slice ho1
  subst ze1
  have HO1 : Hid (EvRow W0.heap.size w1 (.slice zp1 a.length zc1) a) := ho1
  have HBe1 : Hid (Below W0.heap.size W0 w1) := (Below.refl _ _).drew.grown hg1 (Nat.le_refl _) (fun q hq => by cases hq)
  clear ho1 hg1 hn1
  have HSr2 := hid (HSs2.out.below HBe1.out)
  go_simp
  refine hK1 _ _ (fun _ => HBe1.out) ?_
  clear hK1 K1
  refine wpPre_nil ?_
  refine wpTr_e rfl (fun K1 hK1 => ?_)
  refine step_appS rfl (.const (.slice none 0 0)) (.tmp 7) 31 39 i0 _ 2 16 HKd.out rfl w1.heap.size (.slice none 0 0) 0 [] rfl (World.ownsRow_nil _ _ _ _) xp2 b.length xc2 _ rfl HSr2.out (oneEv _) (by omega) (by omega) (Nat.le_refl _) ?_
  intro v2 w2 ho2 hg2 hn2
  rw [Nat.zero_add, List.nil_append] at ho2
  obtain ⟨zp2, zc2, ze2⟩ := ownsRow_slice ho2
  subst ze2
  have HO2 : Hid (EvRow w1.heap.size w2 (.slice zp2 b.length zc2) b) := ho2
  have HBe2 : Hid (Below w1.heap.size w1 w2) := (Below.refl _ _).grown hg2 (Nat.le_refl _) (fun q hq => by cases hq)
  clear ho2 hg2 hn2
  have HSr3 := hid ((HSs3.out.below HBe1.out).below HBe2.out)
  go_simp
  refine hK1 _ _ (fun _ => (HBe1.out).trans (HBe2.out.mono (HBe1.out).size)) ?_
  clear hK1 K1
  refine wpPre_nil ?_
  refine wpTr_e rfl (fun K1 hK1 => ?_)
  refine step_appS rfl (.const (.slice none 0 0)) (.tmp 10) 31 39 i0 _ 2 16 HKd.out rfl w2.heap.size (.slice none 0 0) 0 [] rfl (World.ownsRow_nil _ _ _ _) xp3 c.length xc3 _ rfl HSr3.out (oneEv _) (by omega) (by omega) (Nat.le_refl _) ?_
  intro v3 w3 ho3 hg3 hn3
  rw [Nat.zero_add, List.nil_append] at ho3
  obtain ⟨zp3, zc3, ze3⟩ := ownsRow_slice ho3
  subst ze3
  have HO3 : Hid (EvRow w2.heap.size w3 (.slice zp3 c.length zc3) c) := ho3
  have HBe3 : Hid (Below w2.heap.size w2 w3) := (Below.refl _ _).grown hg3 (Nat.le_refl _) (fun q hq => by cases hq)
  clear ho3 hg3 hn3
  have HSr4 := hid (((HSs4.out.below HBe1.out).below HBe2.out).below HBe3.out)
  go_simp
  refine hK1 _ _ (fun _ => ((HBe1.out).trans (HBe2.out.mono (HBe1.out).size)).trans (HBe3.out.mono ((HBe1.out).trans (HBe2.out.mono (HBe1.out).size)).size)) ?_
  clear hK1 K1
  refine wpPre_nil ?_
  refine wpTr_e rfl (fun K1 hK1 => ?_)
  refine step_appS rfl (.const (.slice none 0 0)) (.tmp 13) 23 3 i1 _ 1 8 HKi.out rfl w3.heap.size (.slice none 0 0) 0 [] rfl (World.ownsRow_nil _ _ _ _) xp4 p.length xc4 _ rfl HSr4.out (oneInts _) (by omega) (by omega) (Nat.le_refl _) ?_
  intro v4 w4 ho4 hg4 hn4
  rw [Nat.zero_add, List.nil_append] at ho4
  obtain ⟨zp4, zc4, ze4⟩ := ownsRow_slice ho4
  subst ze4
  have HO4 : Hid (InRow w3.heap.size w4 (.slice zp4 p.length zc4) p) := ho4
  have HBe4 : Hid (Below w3.heap.size w3 w4) := (Below.refl _ _).grown hg4 (Nat.le_refl _) (fun q hq => by cases hq)
  clear ho4 hg4 hn4
  have bR4 := ((((HR0.out.below HBe1.out).below HBe2.out).below HBe3.out).below HBe4.out)
  have HR4 := hid bR4
  have r0r := bR4.cell 0
  have f0r := bR4.frozen 0
  have r1r := bR4.cell 1
  have f1r := bR4.frozen 1
  have r2r := bR4.cell 2
  have f2r := bR4.frozen 2
  have r3r := bR4.cell 3
  have f3r := bR4.frozen 3
  have r4r := bR4.cell 4
  have f4r := bR4.frozen 4
  have r5r := bR4.cell 5
  have f5r := bR4.frozen 5
  have r6r := bR4.cell 6
  have f6r := bR4.frozen 6
  have lR := bR4.lt
  simp at r0r r1r r2r r3r r4r r5r r6r
  clear bR4
  go_simp
  refine hK1 _ _ (fun _ => (((HBe1.out).trans (HBe2.out.mono (HBe1.out).size)).trans (HBe3.out.mono ((HBe1.out).trans (HBe2.out.mono (HBe1.out).size)).size)).trans (HBe4.out.mono (((HBe1.out).trans (HBe2.out.mono (HBe1.out).size)).trans (HBe3.out.mono ((HBe1.out).trans (HBe2.out.mono (HBe1.out).size)).size)).size)) ?_
  clear hK1 K1
  refine wpPre_e rfl rfl (fun K1 hK1 => ?_)
  apply Exists.intro
  refine And.intro (fun wx hx => ?_) ?_
  · go_simp
    try rfl
  go_simp
  refine hK1 _ ?_
  clear hK1 K1
  refine wpPre_nil ?_
  refine wpTr_e rfl (fun K1 hK1 => ?_)
  go_simp
  refine hK1 _ _ (fun h => by cases h) ?_
  clear hK1 K1
  refine wpPre_nil ?_
  refine wpTr_done ?_
  go_wp2
  have hbx := set7 (y0 := .slice zp1 a.length zc1) (y1 := .slice zp2 b.length zc2) (y2 := .slice zp3 c.length zc3) (y3 := .slice zp4 p.length zc4) (y4 := .int .i64 e) (y5 := .int .i64 f) (y6 := .int .i64 h) HR4.out
  have hbt := but7 (But.one w4 (w.heap.size + 1)) (.slice zp1 a.length zc1) (.slice zp2 b.length zc2) (.slice zp3 c.length zc3) (.slice zp4 p.length zc4) (.int .i64 e) (.int .i64 f) (.int .i64 h)
  obtain ⟨W5, hW5⟩ : ∃ W5, W5 = (((((((w4.setCell ⟨w.heap.size + 1, 0, none⟩ (.slice zp1 a.length zc1)).setCell ⟨w.heap.size + 1, 1, none⟩ (.slice zp2 b.length zc2)).setCell ⟨w.heap.size + 1, 2, none⟩ (.slice zp3 c.length zc3)).setCell ⟨w.heap.size + 1, 3, none⟩ (.slice zp4 p.length zc4)).setCell ⟨w.heap.size + 1, 4, none⟩ (.int .i64 e)).setCell ⟨w.heap.size + 1, 5, none⟩ (.int .i64 f)).setCell ⟨w.heap.size + 1, 6, none⟩ (.int .i64 h)) := ⟨_, rfl⟩
  rw [← hW5] at hbx hbt ⊢
  clear hW5
  have g0 := hbx.cell 0
  have g1 := hbx.cell 1
  have g2 := hbx.cell 2
  have g3 := hbx.cell 3
  have g4 := hbx.cell 4
  have g5 := hbx.cell 5
  have g6 := hbx.cell 6
  simp at g0 g1 g2 g3 g4 g5 g6
  have s0 := HS0.out
  have s1 := HBe1.out.size
  have s2 := HBe2.out.size
  have s3 := HBe3.out.size
  have s4 := HBe4.out.size
  have hb04 : Below w.heap.size w w4 := (((HB0.out.trans (HBe1.out.mono HB0.out.size)).trans (HBe2.out.mono (by omega))).trans (HBe3.out.mono (by omega))).trans (HBe4.out.mono (by omega))
  have hb05 : Below w.heap.size w W5 := hb04.trans (hbt.below hb04.size (fun q hq => by omega))
  have la := fun g hg => World.ownsRow.lt HO1.out g hg
  have lb := fun g hg => World.ownsRow.lt HO2.out g hg
  have lc := fun g hg => World.ownsRow.lt HO3.out g hg
  have lp := fun g hg => World.ownsRow.lt HO4.out g hg
  refine bodyPost_ret (v := .agg #[.slice zp1 a.length zc1, .slice zp2 b.length zc2, .slice zp3 c.length zc3, .slice zp4 p.length zc4, .int .i64 e, .int .i64 f, .int .i64 h]) (by simp [results, Try.results21, go_sem, g0, g1, g2, g3, g4, g5, g6]) rfl ⟨⟨.slice zp1 a.length zc1, .slice zp2 b.length zc2, .slice zp3 c.length zc3, .slice zp4 p.length zc4, a, b, c, p, e, f, h⟩, ⟨rfl, rfl, rfl, rfl, rfl, rfl, rfl⟩, rfl, ?_, hb05⟩
  have rr : AnI w4 (fun b => w.heap.size + 2 ≤ b) ⟨.slice zp1 a.length zc1, .slice zp2 b.length zc2, .slice zp3 c.length zc3, .slice zp4 p.length zc4, a, b, c, p, e, f, h⟩ := by
    refine ⟨(((HO1.out.below HBe2.out).below HBe3.out).below HBe4.out).mono (Nat.zero_le _), ((HO2.out.below HBe3.out).below HBe4.out).mono (Nat.zero_le _), (HO3.out.below HBe4.out).mono (Nat.zero_le _), HO4.out.mono (Nat.zero_le _), ?_, ?_, ?_, ?_, ?_, ?_, ?_, ?_, ?_, ?_, HLL.out⟩
    · intro g hg; have := la g hg; omega
    · intro g hg; have := lb g hg; omega
    · intro g hg; have := lc g hg; omega
    · intro g hg; have := lp g hg; omega
    · intro g hg h2; have := la g hg; have := lb g h2; omega
    · intro g hg h2; have := la g hg; have := lc g h2; omega
    · intro g hg h2; have := la g hg; have := lp g h2; omega
    · intro g hg h2; have := lb g hg; have := lc g h2; omega
    · intro g hg h2; have := lb g hg; have := lp g h2; omega
    · intro g hg h2; have := lc g hg; have := lp g h2; omega
  exact (rr.but hbt (fun k hk _ e => by omega)).mono fun k hk _ => by omega
end Go.Proofs.Ytdpfgflofjiheaa
