import Derived.Test.YtckopbkhpbhljaaDlK
namespace Go.Proofs.Ytckopbkhpbhljaa
open Go.RowKit
set_option maxRecDepth 8000
def aGone (s : LT VT) (d : DT) : List ByteArray := woL id VT.text (⟨#[]⟩ : ByteArray) zC d.gone.toL s.toL
def aSet (s : LT VT) (d : DT) : List VT := ovL VT.text zC (woL VT.text id zC (⟨#[]⟩ : ByteArray) s.toL d.gone.toL) d.set.toL
/-- Apply's error -/
def applyE (sn : Int) (s : LT VT) (d : DT) : Nat := if chkState ⟨sn, s.p, s.n, s.c, s.item⟩ ≠ 0 then chkState ⟨sn, s.p, s.n, s.c, s.item⟩ else if chkD d ≠ 0 then chkD d else if 0 < (aGone s d).length then 110 else if 64 < (aSet s d).length then 111 else 0
set_option maxRecDepth 60000 in
set_option maxHeartbeats 8000000 in
/-- Apply -/
theorem apply_any (sn : Int) (s : LT VT) (d : DT) (w : World) (S : Nat → Prop) (hs : LT.In elCell w S s) (hs0 : -9223372036854775808 ≤ sn) (hs1 : sn ≤ 9223372036854775807) (hd : DT.In w S d) (hS : ∀ k, S k → k < w.heap.size) (hn : s.n ≤ 10000 ∧ d.set.n ≤ 10000 ∧ d.gone.n ≤ 10000) (ht : (∀ j, j < s.n → (s.item j).total ≤ 10000) ∧ ∀ j, j < d.set.n → (d.set.item j).total ≤ 10000) :
    Calls Try.prog 14 #[.agg #[.int .i64 sn, .slice s.p s.n s.c], .agg #[.int .i64 d.num, .slice d.set.p d.set.n d.set.c, .slice d.gone.p d.gone.n d.gone.c]] w fun r w' => Below w.heap.size w w' ∧ (applyE sn s d ≠ 0 → r = .returned (.tuple #[.agg #[.int .i64 0, .slice none 0 0], .int .i64 (applyE sn s d : Int)])) ∧ (applyE sn s d = 0 → ∃ u : LT VT, r = .returned (.tuple #[.agg #[.int .i64 d.num, .slice u.p u.n u.c], .int .i64 0]) ∧ u.n = (aSet s d).length ∧ (∀ j, j < u.n → VT.Alike ((aSet s d).getD j zC) (u.item j)) ∧ LT.In elCell w' (fun k => w.heap.size ≤ k) u) := by
  obtain ⟨er, her⟩ : ∃ x, x = applyE sn s d := ⟨_, rfl⟩
  rw [← her]
  have HEr := hid her
  obtain ⟨W, hW⟩ : ∃ V, V = ((w.alloc (.cells #[.int .i64 sn, .slice s.p s.n s.c] 24)).alloc (.cells #[.int .i64 d.num, .slice d.set.p d.set.n d.set.c, .slice d.gone.p d.gone.n d.gone.c] 30)).alloc (.cells #[.int .i64 0, .slice none 0 0] 24) := ⟨_, rfl⟩
  have hB : Below w.heap.size w W := by rw [hW]; exact (((Below.refl _ _).alloc (Nat.le_refl _) _).alloc (by simp) _).alloc (by simp; omega) _
  have hx0 : Box W w.heap.size #[.int .i64 sn, .slice s.p s.n s.c] 24 := by
    rw [hW]; exact ((Box.new w _ _).below ((Below.refl _ _).alloc (Nat.le_refl _) _)).below ((Below.refl _ _).alloc (Nat.le_refl _) _)
  have hx1 : Box W (w.heap.size + 1) #[.int .i64 d.num, .slice d.set.p d.set.n d.set.c, .slice d.gone.p d.gone.n d.gone.c] 30 := by
    have h := Box.new (w.alloc (.cells #[.int .i64 sn, .slice s.p s.n s.c] 24)) #[.int .i64 d.num, .slice d.set.p d.set.n d.set.c, .slice d.gone.p d.gone.n d.gone.c] 30
    rw [show (w.alloc (.cells #[.int .i64 sn, .slice s.p s.n s.c] 24)).heap.size = w.heap.size + 1 by simp] at h
    rw [hW]; exact h.below ((Below.refl _ _).alloc (Nat.le_refl _) _)
  have hx2 : Box W (w.heap.size + 2) #[.int .i64 0, .slice none 0 0] 24 := by
    have h := Box.new ((w.alloc (.cells #[.int .i64 sn, .slice s.p s.n s.c] 24)).alloc (.cells #[.int .i64 d.num, .slice d.set.p d.set.n d.set.c, .slice d.gone.p d.gone.n d.gone.c] 30)) #[.int .i64 0, .slice none 0 0] 24
    rw [show ((w.alloc (.cells #[.int .i64 sn, .slice s.p s.n s.c] 24)).alloc (.cells #[.int .i64 d.num, .slice d.set.p d.set.n d.set.c, .slice d.gone.p d.gone.n d.gone.c] 30)).heap.size = w.heap.size + 2 by simp] at h
    rw [hW]; exact h
  obtain ⟨cs, hcs⟩ : ∃ c, c = chkState ⟨sn, s.p, s.n, s.c, s.item⟩ := ⟨_, rfl⟩
  obtain ⟨cd, hcd⟩ : ∃ c, c = chkD d := ⟨_, rfl⟩
  have HF1 : Hid (Calls Try.prog 30 #[.agg #[.int .i64 sn, .slice s.p s.n s.c]] W fun e w' => e = .returned (.int .i64 (cs : Int)) ∧ Below W.heap.size W w') := by rw [hcs]; exact checkState_any ⟨sn, s.p, s.n, s.c, s.item⟩ W S (LT.toST (hs.below hB) hs0 hs1) (fun k hk => Nat.lt_of_lt_of_le (hS k hk) hB.size)
  have HF2 : Hid (∀ V, Below W.heap.size W V → Calls Try.prog 13 #[.agg #[.int .i64 d.num, .slice d.set.p d.set.n d.set.c, .slice d.gone.p d.gone.n d.gone.c]] V fun e w' => e = .returned (.int .i64 (cd : Int)) ∧ Below V.heap.size V w') := fun V hV => by rw [hcd]; exact checkD_any d V S ((hd.below hB).below hV) (fun k hk => Nat.lt_of_lt_of_le (hS k hk) (Nat.le_trans hB.size hV.size))
  have HEe : Hid (er = if cs ≠ 0 then cs else if cd ≠ 0 then cd else if 0 < (aGone s d).length then 110 else if 64 < (aSet s d).length then 111 else 0) := by show _ = _; rw [HEr.out, applyE, hcs, hcd]
  have HB := hid hB
  have HW := hid hW
  have HX0 := hid hx0
  have HX1 := hid hx1
  have HX2 := hid hx2
  have HIs := hid hs
  have HD := hid hd
  have HS := hid hS
  have HT := hid ht
  have a0 := hx0.cell 0
  have a1 := hx0.cell 1
  have al := hx0.lt
  simp at a0 a1
  clear hs hd hS ht hB hW hx0 hx1 hx2 hcs hcd her
  go_enter Try.func14, Try.ntmps14
  go_upto_region 1 with fail
  rw [← HW.out]
  obtain ⟨c2, hc2⟩ : ∃ x, x = w.heap.size + 1 + 1 := ⟨_, rfl⟩
  rw [← hc2]
  have HC2 : Hid (c2 = w.heap.size + 2) := hc2
  clear hc2
  go_wp2_with fail
  refine HF1.out.mono ?_
  rintro r w0 ⟨rfl, hb0⟩
  have HB0 := hid hb0
  have HBq : Hid (Below w.heap.size w w0) := HB.out.trans (hb0.mono HB.out.size)
  have HZ0 : Hid (Box w0 c2 #[.int .i64 0, .slice none 0 0] 24) := by have hz := HX2.out.below hb0; rw [← HC2.out] at hz; exact hz
  clear hb0 a0 a1 al HF1
  by_cases hc : cs = 0
  · have hc1 : ((cs : Int) != 0) = false := by simp [hc]
    have hx1 := HX1.out.below HB0.out
    have d0 := hx1.cell 0
    have d1 := hx1.cell 1
    have d2 := hx1.cell 2
    have dl := hx1.lt
    simp at d0 d1 d2
    have HC0 := hid hc
    clear hc hx1
    go_wp2_with fail
    refine (HF2.out _ HB0.out).mono ?_
    rintro r w1 ⟨rfl, hb1⟩
    have HB1 : Hid (Below W.heap.size W w1) := HB0.out.trans (hb1.mono HB0.out.size)
    have HBa : Hid (Below w.heap.size w w1) := HBq.out.trans (hb1.mono HBq.out.size)
    have HZ : Hid (Box w1 c2 #[.int .i64 0, .slice none 0 0] 24) := HZ0.out.below hb1
    clear hb1 d0 d1 d2 dl HF2
    by_cases hk : cd = 0
    · have hk1 : ((cd : Int) != 0) = false := by simp [hk]
      have HK0 := hid hk
      have hxs := HX0.out.below HB1.out
      have hxd := HX1.out.below HB1.out
      have HXd := hid hxd
      have s1 := hxs.cell 1
      have sl := hxs.lt
      have d1 := hxd.cell 1
      have d2 := hxd.cell 2
      have dl := hxd.lt
      simp at s1 d1 d2
      clear hk hxs hxd
      go_upto_region 7 with fail
      go_cut [8, 9, 10] (fun x y z wx => ∃ b9 b10 b11, x = .pointer (some ⟨b9, 0, none⟩) ∧ y = .pointer (some ⟨b10, 0, none⟩) ∧ z = .pointer (some ⟨b11, 0, none⟩) ∧ Box wx b9 #[.slice s.p s.n s.c, .func (.func 60) #[] #[]] 70 ∧ Box wx b10 #[.slice d.set.p d.set.n d.set.c, .func (.func 60) #[] #[]] 70 ∧ Box wx b11 #[.slice d.gone.p d.gone.n d.gone.c, .func (.func 70) #[] #[]] 78 ∧ Below w1.heap.size w1 wx)
      case first =>
        refine wp_region_inv (by kernel_rfl) (fun (D : Nat → Prop) a wx => ∃ (x0 x1 x2 x3 x4 x5 x6 x7 x8 x9 x10 x11 : Value) (b9 b10 b11 : Nat), a = { tmps := #[.agg #[.int .i64 sn, .slice s.p s.n s.c], .agg #[.int .i64 d.num, .slice d.set.p d.set.n d.set.c, .slice d.gone.p d.gone.n d.gone.c], .pointer (some ⟨w.heap.size, 0, none⟩), .pointer (some ⟨w.heap.size + 1, 0, none⟩), .pointer (some ⟨c2, 0, none⟩), .int .i64 0, .int .i64 (cs : Int), .int .i64 (cd : Int), x9, x10, x11, undef, .agg #[.int .i64 sn, .slice s.p s.n s.c], .int .i64 (cs : Int), .int .i64 (cs : Int), .bool false, undef, undef, .agg #[.int .i64 d.num, .slice d.set.p d.set.n d.set.c, .slice d.gone.p d.gone.n d.gone.c], .int .i64 (cd : Int), .int .i64 (cd : Int), .bool false, undef, undef, x0, x1, x2, x3, x4, x5, x6, x7, x8, undef, undef, undef, undef, undef, undef, undef, undef, undef, undef, undef, undef, undef, undef, undef, undef, undef, undef, undef, undef, undef], defers := [] } ∧ Below w1.heap.size w1 wx ∧ (D 0 → x0 = .pointer (some ⟨w.heap.size, 1, none⟩)) ∧ (D 1 → x1 = .slice s.p s.n s.c) ∧ (D 2 → x2 = .agg #[.slice s.p s.n s.c, .func (.func 60) #[] #[]]) ∧ (D 3 → x3 = .pointer (some ⟨w.heap.size + 1, 1, none⟩)) ∧ (D 4 → x4 = .slice d.set.p d.set.n d.set.c) ∧ (D 5 → x5 = .agg #[.slice d.set.p d.set.n d.set.c, .func (.func 60) #[] #[]]) ∧ (D 6 → x6 = .pointer (some ⟨w.heap.size + 1, 2, none⟩)) ∧ (D 7 → x7 = .slice d.gone.p d.gone.n d.gone.c) ∧ (D 8 → x8 = .agg #[.slice d.gone.p d.gone.n d.gone.c, .func (.func 70) #[] #[]]) ∧ (D 9 → x9 = .pointer (some ⟨b9, 0, none⟩) ∧ w1.heap.size ≤ b9 ∧ b9 < wx.heap.size) ∧ (D 9 → ¬ D 12 → Box wx b9 #[.slice none 0 0, .nilFunc] 70) ∧ (D 12 → D 9 ∧ Box wx b9 #[.slice s.p s.n s.c, .func (.func 60) #[] #[]] 70) ∧ (D 10 → x10 = .pointer (some ⟨b10, 0, none⟩) ∧ w1.heap.size ≤ b10 ∧ b10 < wx.heap.size) ∧ (D 10 → ¬ D 13 → Box wx b10 #[.slice none 0 0, .nilFunc] 70) ∧ (D 13 → D 10 ∧ Box wx b10 #[.slice d.set.p d.set.n d.set.c, .func (.func 60) #[] #[]] 70) ∧ (D 11 → x11 = .pointer (some ⟨b11, 0, none⟩) ∧ w1.heap.size ≤ b11 ∧ b11 < wx.heap.size) ∧ (D 11 → ¬ D 14 → Box wx b11 #[.slice none 0 0, .nilFunc] 78) ∧ (D 14 → D 11 ∧ Box wx b11 #[.slice d.gone.p d.gone.n d.gone.c, .func (.func 70) #[] #[]] 78) ∧ (D 9 → D 10 → b9 ≠ b10) ∧ (D 9 → D 11 → b9 ≠ b11) ∧ (D 10 → D 11 → b10 ≠ b11)) ?ext (by kernel_rfl) ?h0 ?step ?fin
        case ext =>
          intro D D' a wx hD h
          have e : D = D' := funext fun j => propext (hD j)
          rw [← e]; exact h
        case h0 =>
          intro D hD
          exact ⟨undef, undef, undef, undef, undef, undef, undef, undef, undef, undef, undef, undef, 0, 0, 0, rfl, (Below.refl _ _).drew, fun h => absurd h (hD _), fun h => absurd h (hD _), fun h => absurd h (hD _), fun h => absurd h (hD _), fun h => absurd h (hD _), fun h => absurd h (hD _), fun h => absurd h (hD _), fun h => absurd h (hD _), fun h => absurd h (hD _), fun h => absurd h (hD _), fun h _ => absurd h (hD _), fun h => absurd h (hD _), fun h => absurd h (hD _), fun h _ => absurd h (hD _), fun h => absurd h (hD _), fun h => absurd h (hD _), fun h _ => absurd h (hD _), fun h => absurd h (hD _), fun h _ => absurd h (hD _), fun h _ => absurd h (hD _), fun h _ => absurd h (hD _)⟩
        case step =>
          rintro D a wx ⟨x0, x1, x2, x3, x4, x5, x6, x7, x8, x9, x10, x11, b9, b10, b11, rfl, hbel, f0, f1, f2, f3, f4, f5, f6, f7, f8, p9, z9, y9, p10, z10, y10, p11, z11, y11, n9_10, n9_11, n10_11⟩ i o ho hnd hdep
          have hi : i < 15 := (Array.getElem?_eq_some_iff.1 ho).1
          have hsz := hbel.size
          obtain rfl | rfl | rfl | rfl | rfl | rfl | rfl | rfl | rfl | rfl | rfl | rfl | rfl | rfl | rfl : i = 0 ∨ i = 1 ∨ i = 2 ∨ i = 3 ∨ i = 4 ∨ i = 5 ∨ i = 6 ∨ i = 7 ∨ i = 8 ∨ i = 9 ∨ i = 10 ∨ i = 11 ∨ i = 12 ∨ i = 13 ∨ i = 14 := by omega
          · obtain rfl := Option.some.inj ho
            refine wpOp_e rfl rfl (fun K1 hK1 => ?_)
            have hgrow := Nat.le_refl wx.heap.size
            go_simp
            refine hK1 _ _ ⟨_, x1, x2, x3, x4, x5, x6, x7, x8, x9, x10, x11, b9, b10, b11, rfl, hbel, (fun _ => rfl), (fun h => f1 (h.resolve_right (by decide))), (fun h => f2 (h.resolve_right (by decide))), (fun h => f3 (h.resolve_right (by decide))), (fun h => f4 (h.resolve_right (by decide))), (fun h => f5 (h.resolve_right (by decide))), (fun h => f6 (h.resolve_right (by decide))), (fun h => f7 (h.resolve_right (by decide))), (fun h => f8 (h.resolve_right (by decide))), (fun h => by obtain ⟨h1, h2, h3⟩ := p9 (h.resolve_right (by decide)); exact ⟨h1, h2, Nat.lt_of_lt_of_le h3 hgrow⟩), (fun h g => (z9 (h.resolve_right (by decide)) (fun g2 => g (.inl g2)))), (fun h => ⟨.inl (y9 (h.resolve_right (by decide))).1, (y9 (h.resolve_right (by decide))).2⟩), (fun h => by obtain ⟨h1, h2, h3⟩ := p10 (h.resolve_right (by decide)); exact ⟨h1, h2, Nat.lt_of_lt_of_le h3 hgrow⟩), (fun h g => (z10 (h.resolve_right (by decide)) (fun g2 => g (.inl g2)))), (fun h => ⟨.inl (y10 (h.resolve_right (by decide))).1, (y10 (h.resolve_right (by decide))).2⟩), (fun h => by obtain ⟨h1, h2, h3⟩ := p11 (h.resolve_right (by decide)); exact ⟨h1, h2, Nat.lt_of_lt_of_le h3 hgrow⟩), (fun h g => (z11 (h.resolve_right (by decide)) (fun g2 => g (.inl g2)))), (fun h => ⟨.inl (y11 (h.resolve_right (by decide))).1, (y11 (h.resolve_right (by decide))).2⟩), (fun h g => n9_10 (h.resolve_right (by decide)) (g.resolve_right (by decide))), (fun h g => n9_11 (h.resolve_right (by decide)) (g.resolve_right (by decide))), (fun h g => n10_11 (h.resolve_right (by decide)) (g.resolve_right (by decide)))⟩
          · obtain rfl := Option.some.inj ho
            have d0 : D 0 := hdep { on := 0, ground := Ground.data } (by simp) rfl
            obtain rfl := f0 d0
            refine wpOp_e rfl rfl (fun K1 hK1 => ?_)
            have cc := (World.cell?_of_block (a := ⟨w.heap.size, 1, none⟩) (hbel.block _ sl)).trans s1
            have ccl := Nat.lt_of_lt_of_le sl hbel.size
            have hgrow := Nat.le_refl wx.heap.size
            go_simp
            refine hK1 _ _ ⟨_, _, x2, x3, x4, x5, x6, x7, x8, x9, x10, x11, b9, b10, b11, rfl, hbel, (fun h => f0 (h.resolve_right (by decide))), (fun _ => rfl), (fun h => f2 (h.resolve_right (by decide))), (fun h => f3 (h.resolve_right (by decide))), (fun h => f4 (h.resolve_right (by decide))), (fun h => f5 (h.resolve_right (by decide))), (fun h => f6 (h.resolve_right (by decide))), (fun h => f7 (h.resolve_right (by decide))), (fun h => f8 (h.resolve_right (by decide))), (fun h => by obtain ⟨h1, h2, h3⟩ := p9 (h.resolve_right (by decide)); exact ⟨h1, h2, Nat.lt_of_lt_of_le h3 hgrow⟩), (fun h g => (z9 (h.resolve_right (by decide)) (fun g2 => g (.inl g2)))), (fun h => ⟨.inl (y9 (h.resolve_right (by decide))).1, (y9 (h.resolve_right (by decide))).2⟩), (fun h => by obtain ⟨h1, h2, h3⟩ := p10 (h.resolve_right (by decide)); exact ⟨h1, h2, Nat.lt_of_lt_of_le h3 hgrow⟩), (fun h g => (z10 (h.resolve_right (by decide)) (fun g2 => g (.inl g2)))), (fun h => ⟨.inl (y10 (h.resolve_right (by decide))).1, (y10 (h.resolve_right (by decide))).2⟩), (fun h => by obtain ⟨h1, h2, h3⟩ := p11 (h.resolve_right (by decide)); exact ⟨h1, h2, Nat.lt_of_lt_of_le h3 hgrow⟩), (fun h g => (z11 (h.resolve_right (by decide)) (fun g2 => g (.inl g2)))), (fun h => ⟨.inl (y11 (h.resolve_right (by decide))).1, (y11 (h.resolve_right (by decide))).2⟩), (fun h g => n9_10 (h.resolve_right (by decide)) (g.resolve_right (by decide))), (fun h g => n9_11 (h.resolve_right (by decide)) (g.resolve_right (by decide))), (fun h g => n10_11 (h.resolve_right (by decide)) (g.resolve_right (by decide)))⟩
          · obtain rfl := Option.some.inj ho
            have d1 : D 1 := hdep { on := 1, ground := Ground.data } (by simp) rfl
            obtain rfl := f1 d1
            refine wpOp_e rfl rfl (fun K1 hK1 => ?_)
            refine step_callT 33 (.func 33) #[.tmp 25] _ rfl rfl Try.f33 Try.func33 (by kernel_rfl) rfl #[.slice s.p s.n s.c] rfl _ (mk_C s.p s.n s.c wx) (fun e w4 h4 => ?_)
            obtain ⟨rfl, hb4⟩ := h4
            have hgrow := hb4.size
            refine ⟨_, rfl, ?_⟩
            go_simp
            refine hK1 _ _ ⟨x0, _, _, x3, x4, x5, x6, x7, x8, x9, x10, x11, b9, b10, b11, rfl, hbel.trans (hb4.mono hbel.size), (fun h => f0 (h.resolve_right (by decide))), (fun h => f1 (h.resolve_right (by decide))), (fun _ => rfl), (fun h => f3 (h.resolve_right (by decide))), (fun h => f4 (h.resolve_right (by decide))), (fun h => f5 (h.resolve_right (by decide))), (fun h => f6 (h.resolve_right (by decide))), (fun h => f7 (h.resolve_right (by decide))), (fun h => f8 (h.resolve_right (by decide))), (fun h => by obtain ⟨h1, h2, h3⟩ := p9 (h.resolve_right (by decide)); exact ⟨h1, h2, Nat.lt_of_lt_of_le h3 hgrow⟩), (fun h g => (z9 (h.resolve_right (by decide)) (fun g2 => g (.inl g2))).below hb4), (fun h => ⟨.inl (y9 (h.resolve_right (by decide))).1, (y9 (h.resolve_right (by decide))).2.below hb4⟩), (fun h => by obtain ⟨h1, h2, h3⟩ := p10 (h.resolve_right (by decide)); exact ⟨h1, h2, Nat.lt_of_lt_of_le h3 hgrow⟩), (fun h g => (z10 (h.resolve_right (by decide)) (fun g2 => g (.inl g2))).below hb4), (fun h => ⟨.inl (y10 (h.resolve_right (by decide))).1, (y10 (h.resolve_right (by decide))).2.below hb4⟩), (fun h => by obtain ⟨h1, h2, h3⟩ := p11 (h.resolve_right (by decide)); exact ⟨h1, h2, Nat.lt_of_lt_of_le h3 hgrow⟩), (fun h g => (z11 (h.resolve_right (by decide)) (fun g2 => g (.inl g2))).below hb4), (fun h => ⟨.inl (y11 (h.resolve_right (by decide))).1, (y11 (h.resolve_right (by decide))).2.below hb4⟩), (fun h g => n9_10 (h.resolve_right (by decide)) (g.resolve_right (by decide))), (fun h g => n9_11 (h.resolve_right (by decide)) (g.resolve_right (by decide))), (fun h g => n10_11 (h.resolve_right (by decide)) (g.resolve_right (by decide)))⟩
          · obtain rfl := Option.some.inj ho
            refine wpOp_e rfl rfl (fun K1 hK1 => ?_)
            have hgrow := Nat.le_refl wx.heap.size
            go_simp
            refine hK1 _ _ ⟨x0, x1, x2, _, x4, x5, x6, x7, x8, x9, x10, x11, b9, b10, b11, rfl, hbel, (fun h => f0 (h.resolve_right (by decide))), (fun h => f1 (h.resolve_right (by decide))), (fun h => f2 (h.resolve_right (by decide))), (fun _ => rfl), (fun h => f4 (h.resolve_right (by decide))), (fun h => f5 (h.resolve_right (by decide))), (fun h => f6 (h.resolve_right (by decide))), (fun h => f7 (h.resolve_right (by decide))), (fun h => f8 (h.resolve_right (by decide))), (fun h => by obtain ⟨h1, h2, h3⟩ := p9 (h.resolve_right (by decide)); exact ⟨h1, h2, Nat.lt_of_lt_of_le h3 hgrow⟩), (fun h g => (z9 (h.resolve_right (by decide)) (fun g2 => g (.inl g2)))), (fun h => ⟨.inl (y9 (h.resolve_right (by decide))).1, (y9 (h.resolve_right (by decide))).2⟩), (fun h => by obtain ⟨h1, h2, h3⟩ := p10 (h.resolve_right (by decide)); exact ⟨h1, h2, Nat.lt_of_lt_of_le h3 hgrow⟩), (fun h g => (z10 (h.resolve_right (by decide)) (fun g2 => g (.inl g2)))), (fun h => ⟨.inl (y10 (h.resolve_right (by decide))).1, (y10 (h.resolve_right (by decide))).2⟩), (fun h => by obtain ⟨h1, h2, h3⟩ := p11 (h.resolve_right (by decide)); exact ⟨h1, h2, Nat.lt_of_lt_of_le h3 hgrow⟩), (fun h g => (z11 (h.resolve_right (by decide)) (fun g2 => g (.inl g2)))), (fun h => ⟨.inl (y11 (h.resolve_right (by decide))).1, (y11 (h.resolve_right (by decide))).2⟩), (fun h g => n9_10 (h.resolve_right (by decide)) (g.resolve_right (by decide))), (fun h g => n9_11 (h.resolve_right (by decide)) (g.resolve_right (by decide))), (fun h g => n10_11 (h.resolve_right (by decide)) (g.resolve_right (by decide)))⟩
          · obtain rfl := Option.some.inj ho
            have d3 : D 3 := hdep { on := 3, ground := Ground.data } (by simp) rfl
            obtain rfl := f3 d3
            refine wpOp_e rfl rfl (fun K1 hK1 => ?_)
            have cc := (World.cell?_of_block (a := ⟨w.heap.size + 1, 1, none⟩) (hbel.block _ dl)).trans d1
            have ccl := Nat.lt_of_lt_of_le dl hbel.size
            have hgrow := Nat.le_refl wx.heap.size
            go_simp
            refine hK1 _ _ ⟨x0, x1, x2, _, _, x5, x6, x7, x8, x9, x10, x11, b9, b10, b11, rfl, hbel, (fun h => f0 (h.resolve_right (by decide))), (fun h => f1 (h.resolve_right (by decide))), (fun h => f2 (h.resolve_right (by decide))), (fun h => f3 (h.resolve_right (by decide))), (fun _ => rfl), (fun h => f5 (h.resolve_right (by decide))), (fun h => f6 (h.resolve_right (by decide))), (fun h => f7 (h.resolve_right (by decide))), (fun h => f8 (h.resolve_right (by decide))), (fun h => by obtain ⟨h1, h2, h3⟩ := p9 (h.resolve_right (by decide)); exact ⟨h1, h2, Nat.lt_of_lt_of_le h3 hgrow⟩), (fun h g => (z9 (h.resolve_right (by decide)) (fun g2 => g (.inl g2)))), (fun h => ⟨.inl (y9 (h.resolve_right (by decide))).1, (y9 (h.resolve_right (by decide))).2⟩), (fun h => by obtain ⟨h1, h2, h3⟩ := p10 (h.resolve_right (by decide)); exact ⟨h1, h2, Nat.lt_of_lt_of_le h3 hgrow⟩), (fun h g => (z10 (h.resolve_right (by decide)) (fun g2 => g (.inl g2)))), (fun h => ⟨.inl (y10 (h.resolve_right (by decide))).1, (y10 (h.resolve_right (by decide))).2⟩), (fun h => by obtain ⟨h1, h2, h3⟩ := p11 (h.resolve_right (by decide)); exact ⟨h1, h2, Nat.lt_of_lt_of_le h3 hgrow⟩), (fun h g => (z11 (h.resolve_right (by decide)) (fun g2 => g (.inl g2)))), (fun h => ⟨.inl (y11 (h.resolve_right (by decide))).1, (y11 (h.resolve_right (by decide))).2⟩), (fun h g => n9_10 (h.resolve_right (by decide)) (g.resolve_right (by decide))), (fun h g => n9_11 (h.resolve_right (by decide)) (g.resolve_right (by decide))), (fun h g => n10_11 (h.resolve_right (by decide)) (g.resolve_right (by decide)))⟩
          · obtain rfl := Option.some.inj ho
            have d4 : D 4 := hdep { on := 4, ground := Ground.data } (by simp) rfl
            have d2 : D 2 := hdep { on := 2, ground := Ground.chain } (by simp) rfl
            obtain rfl := f4 d4
            obtain rfl := f2 d2
            refine wpOp_e rfl rfl (fun K1 hK1 => ?_)
            refine step_callT 33 (.func 33) #[.tmp 28] _ rfl rfl Try.f33 Try.func33 (by kernel_rfl) rfl #[.slice d.set.p d.set.n d.set.c] rfl _ (mk_C d.set.p d.set.n d.set.c wx) (fun e w4 h4 => ?_)
            obtain ⟨rfl, hb4⟩ := h4
            have hgrow := hb4.size
            refine ⟨_, rfl, ?_⟩
            go_simp
            refine hK1 _ _ ⟨x0, x1, _, x3, _, _, x6, x7, x8, x9, x10, x11, b9, b10, b11, rfl, hbel.trans (hb4.mono hbel.size), (fun h => f0 (h.resolve_right (by decide))), (fun h => f1 (h.resolve_right (by decide))), (fun h => f2 (h.resolve_right (by decide))), (fun h => f3 (h.resolve_right (by decide))), (fun h => f4 (h.resolve_right (by decide))), (fun _ => rfl), (fun h => f6 (h.resolve_right (by decide))), (fun h => f7 (h.resolve_right (by decide))), (fun h => f8 (h.resolve_right (by decide))), (fun h => by obtain ⟨h1, h2, h3⟩ := p9 (h.resolve_right (by decide)); exact ⟨h1, h2, Nat.lt_of_lt_of_le h3 hgrow⟩), (fun h g => (z9 (h.resolve_right (by decide)) (fun g2 => g (.inl g2))).below hb4), (fun h => ⟨.inl (y9 (h.resolve_right (by decide))).1, (y9 (h.resolve_right (by decide))).2.below hb4⟩), (fun h => by obtain ⟨h1, h2, h3⟩ := p10 (h.resolve_right (by decide)); exact ⟨h1, h2, Nat.lt_of_lt_of_le h3 hgrow⟩), (fun h g => (z10 (h.resolve_right (by decide)) (fun g2 => g (.inl g2))).below hb4), (fun h => ⟨.inl (y10 (h.resolve_right (by decide))).1, (y10 (h.resolve_right (by decide))).2.below hb4⟩), (fun h => by obtain ⟨h1, h2, h3⟩ := p11 (h.resolve_right (by decide)); exact ⟨h1, h2, Nat.lt_of_lt_of_le h3 hgrow⟩), (fun h g => (z11 (h.resolve_right (by decide)) (fun g2 => g (.inl g2))).below hb4), (fun h => ⟨.inl (y11 (h.resolve_right (by decide))).1, (y11 (h.resolve_right (by decide))).2.below hb4⟩), (fun h g => n9_10 (h.resolve_right (by decide)) (g.resolve_right (by decide))), (fun h g => n9_11 (h.resolve_right (by decide)) (g.resolve_right (by decide))), (fun h g => n10_11 (h.resolve_right (by decide)) (g.resolve_right (by decide)))⟩
          · obtain rfl := Option.some.inj ho
            refine wpOp_e rfl rfl (fun K1 hK1 => ?_)
            have hgrow := Nat.le_refl wx.heap.size
            go_simp
            refine hK1 _ _ ⟨x0, x1, x2, x3, x4, x5, _, x7, x8, x9, x10, x11, b9, b10, b11, rfl, hbel, (fun h => f0 (h.resolve_right (by decide))), (fun h => f1 (h.resolve_right (by decide))), (fun h => f2 (h.resolve_right (by decide))), (fun h => f3 (h.resolve_right (by decide))), (fun h => f4 (h.resolve_right (by decide))), (fun h => f5 (h.resolve_right (by decide))), (fun _ => rfl), (fun h => f7 (h.resolve_right (by decide))), (fun h => f8 (h.resolve_right (by decide))), (fun h => by obtain ⟨h1, h2, h3⟩ := p9 (h.resolve_right (by decide)); exact ⟨h1, h2, Nat.lt_of_lt_of_le h3 hgrow⟩), (fun h g => (z9 (h.resolve_right (by decide)) (fun g2 => g (.inl g2)))), (fun h => ⟨.inl (y9 (h.resolve_right (by decide))).1, (y9 (h.resolve_right (by decide))).2⟩), (fun h => by obtain ⟨h1, h2, h3⟩ := p10 (h.resolve_right (by decide)); exact ⟨h1, h2, Nat.lt_of_lt_of_le h3 hgrow⟩), (fun h g => (z10 (h.resolve_right (by decide)) (fun g2 => g (.inl g2)))), (fun h => ⟨.inl (y10 (h.resolve_right (by decide))).1, (y10 (h.resolve_right (by decide))).2⟩), (fun h => by obtain ⟨h1, h2, h3⟩ := p11 (h.resolve_right (by decide)); exact ⟨h1, h2, Nat.lt_of_lt_of_le h3 hgrow⟩), (fun h g => (z11 (h.resolve_right (by decide)) (fun g2 => g (.inl g2)))), (fun h => ⟨.inl (y11 (h.resolve_right (by decide))).1, (y11 (h.resolve_right (by decide))).2⟩), (fun h g => n9_10 (h.resolve_right (by decide)) (g.resolve_right (by decide))), (fun h g => n9_11 (h.resolve_right (by decide)) (g.resolve_right (by decide))), (fun h g => n10_11 (h.resolve_right (by decide)) (g.resolve_right (by decide)))⟩
          · obtain rfl := Option.some.inj ho
            have d6 : D 6 := hdep { on := 6, ground := Ground.data } (by simp) rfl
            obtain rfl := f6 d6
            refine wpOp_e rfl rfl (fun K1 hK1 => ?_)
            have cc := (World.cell?_of_block (a := ⟨w.heap.size + 1, 2, none⟩) (hbel.block _ dl)).trans d2
            have ccl := Nat.lt_of_lt_of_le dl hbel.size
            have hgrow := Nat.le_refl wx.heap.size
            go_simp
            refine hK1 _ _ ⟨x0, x1, x2, x3, x4, x5, _, _, x8, x9, x10, x11, b9, b10, b11, rfl, hbel, (fun h => f0 (h.resolve_right (by decide))), (fun h => f1 (h.resolve_right (by decide))), (fun h => f2 (h.resolve_right (by decide))), (fun h => f3 (h.resolve_right (by decide))), (fun h => f4 (h.resolve_right (by decide))), (fun h => f5 (h.resolve_right (by decide))), (fun h => f6 (h.resolve_right (by decide))), (fun _ => rfl), (fun h => f8 (h.resolve_right (by decide))), (fun h => by obtain ⟨h1, h2, h3⟩ := p9 (h.resolve_right (by decide)); exact ⟨h1, h2, Nat.lt_of_lt_of_le h3 hgrow⟩), (fun h g => (z9 (h.resolve_right (by decide)) (fun g2 => g (.inl g2)))), (fun h => ⟨.inl (y9 (h.resolve_right (by decide))).1, (y9 (h.resolve_right (by decide))).2⟩), (fun h => by obtain ⟨h1, h2, h3⟩ := p10 (h.resolve_right (by decide)); exact ⟨h1, h2, Nat.lt_of_lt_of_le h3 hgrow⟩), (fun h g => (z10 (h.resolve_right (by decide)) (fun g2 => g (.inl g2)))), (fun h => ⟨.inl (y10 (h.resolve_right (by decide))).1, (y10 (h.resolve_right (by decide))).2⟩), (fun h => by obtain ⟨h1, h2, h3⟩ := p11 (h.resolve_right (by decide)); exact ⟨h1, h2, Nat.lt_of_lt_of_le h3 hgrow⟩), (fun h g => (z11 (h.resolve_right (by decide)) (fun g2 => g (.inl g2)))), (fun h => ⟨.inl (y11 (h.resolve_right (by decide))).1, (y11 (h.resolve_right (by decide))).2⟩), (fun h g => n9_10 (h.resolve_right (by decide)) (g.resolve_right (by decide))), (fun h g => n9_11 (h.resolve_right (by decide)) (g.resolve_right (by decide))), (fun h g => n10_11 (h.resolve_right (by decide)) (g.resolve_right (by decide)))⟩
          · obtain rfl := Option.some.inj ho
            have d7 : D 7 := hdep { on := 7, ground := Ground.data } (by simp) rfl
            have d5 : D 5 := hdep { on := 5, ground := Ground.chain } (by simp) rfl
            obtain rfl := f7 d7
            obtain rfl := f5 d5
            refine wpOp_e rfl rfl (fun K1 hK1 => ?_)
            refine step_callT 37 (.func 37) #[.tmp 31] _ rfl rfl Try.f37 Try.func37 (by kernel_rfl) rfl #[.slice d.gone.p d.gone.n d.gone.c] rfl _ (mk_S d.gone.p d.gone.n d.gone.c wx) (fun e w4 h4 => ?_)
            obtain ⟨rfl, hb4⟩ := h4
            have hgrow := hb4.size
            refine ⟨_, rfl, ?_⟩
            go_simp
            refine hK1 _ _ ⟨x0, x1, x2, x3, x4, _, x6, _, _, x9, x10, x11, b9, b10, b11, rfl, hbel.trans (hb4.mono hbel.size), (fun h => f0 (h.resolve_right (by decide))), (fun h => f1 (h.resolve_right (by decide))), (fun h => f2 (h.resolve_right (by decide))), (fun h => f3 (h.resolve_right (by decide))), (fun h => f4 (h.resolve_right (by decide))), (fun h => f5 (h.resolve_right (by decide))), (fun h => f6 (h.resolve_right (by decide))), (fun h => f7 (h.resolve_right (by decide))), (fun _ => rfl), (fun h => by obtain ⟨h1, h2, h3⟩ := p9 (h.resolve_right (by decide)); exact ⟨h1, h2, Nat.lt_of_lt_of_le h3 hgrow⟩), (fun h g => (z9 (h.resolve_right (by decide)) (fun g2 => g (.inl g2))).below hb4), (fun h => ⟨.inl (y9 (h.resolve_right (by decide))).1, (y9 (h.resolve_right (by decide))).2.below hb4⟩), (fun h => by obtain ⟨h1, h2, h3⟩ := p10 (h.resolve_right (by decide)); exact ⟨h1, h2, Nat.lt_of_lt_of_le h3 hgrow⟩), (fun h g => (z10 (h.resolve_right (by decide)) (fun g2 => g (.inl g2))).below hb4), (fun h => ⟨.inl (y10 (h.resolve_right (by decide))).1, (y10 (h.resolve_right (by decide))).2.below hb4⟩), (fun h => by obtain ⟨h1, h2, h3⟩ := p11 (h.resolve_right (by decide)); exact ⟨h1, h2, Nat.lt_of_lt_of_le h3 hgrow⟩), (fun h g => (z11 (h.resolve_right (by decide)) (fun g2 => g (.inl g2))).below hb4), (fun h => ⟨.inl (y11 (h.resolve_right (by decide))).1, (y11 (h.resolve_right (by decide))).2.below hb4⟩), (fun h g => n9_10 (h.resolve_right (by decide)) (g.resolve_right (by decide))), (fun h g => n9_11 (h.resolve_right (by decide)) (g.resolve_right (by decide))), (fun h g => n10_11 (h.resolve_right (by decide)) (g.resolve_right (by decide)))⟩
          · obtain rfl := Option.some.inj ho
            refine wpOp_e rfl rfl (fun K1 hK1 => ?_)
            have hb4 : Below wx.heap.size wx (wx.alloc (.cells #[.slice none 0 0, .nilFunc] 70)) := (Below.refl _ _).alloc (Nat.le_refl _) _
            have hgrow := hb4.size
            go_simp
            refine hK1 _ _ ⟨x0, x1, x2, x3, x4, x5, x6, x7, x8, _, x10, x11, wx.heap.size, b10, b11, rfl, hbel.trans (hb4.mono hbel.size), (fun h => f0 (h.resolve_right (by decide))), (fun h => f1 (h.resolve_right (by decide))), (fun h => f2 (h.resolve_right (by decide))), (fun h => f3 (h.resolve_right (by decide))), (fun h => f4 (h.resolve_right (by decide))), (fun h => f5 (h.resolve_right (by decide))), (fun h => f6 (h.resolve_right (by decide))), (fun h => f7 (h.resolve_right (by decide))), (fun h => f8 (h.resolve_right (by decide))), (fun _ => ⟨rfl, hsz, by simp⟩), (fun _ _ => Box.new _ _ _), (fun h => absurd (y9 (h.resolve_right (by decide))).1 hnd), (fun h => by obtain ⟨h1, h2, h3⟩ := p10 (h.resolve_right (by decide)); exact ⟨h1, h2, Nat.lt_of_lt_of_le h3 hgrow⟩), (fun h g => (z10 (h.resolve_right (by decide)) (fun g2 => g (.inl g2))).below hb4), (fun h => ⟨.inl (y10 (h.resolve_right (by decide))).1, (y10 (h.resolve_right (by decide))).2.below hb4⟩), (fun h => by obtain ⟨h1, h2, h3⟩ := p11 (h.resolve_right (by decide)); exact ⟨h1, h2, Nat.lt_of_lt_of_le h3 hgrow⟩), (fun h g => (z11 (h.resolve_right (by decide)) (fun g2 => g (.inl g2))).below hb4), (fun h => ⟨.inl (y11 (h.resolve_right (by decide))).1, (y11 (h.resolve_right (by decide))).2.below hb4⟩), (fun _ h => by obtain ⟨_, _, h3⟩ := p10 (h.resolve_right (by decide)); omega), (fun _ h => by obtain ⟨_, _, h3⟩ := p11 (h.resolve_right (by decide)); omega), (fun h g => n10_11 (h.resolve_right (by decide)) (g.resolve_right (by decide)))⟩
          · obtain rfl := Option.some.inj ho
            refine wpOp_e rfl rfl (fun K1 hK1 => ?_)
            have hb4 : Below wx.heap.size wx (wx.alloc (.cells #[.slice none 0 0, .nilFunc] 70)) := (Below.refl _ _).alloc (Nat.le_refl _) _
            have hgrow := hb4.size
            go_simp
            refine hK1 _ _ ⟨x0, x1, x2, x3, x4, x5, x6, x7, x8, x9, _, x11, b9, wx.heap.size, b11, rfl, hbel.trans (hb4.mono hbel.size), (fun h => f0 (h.resolve_right (by decide))), (fun h => f1 (h.resolve_right (by decide))), (fun h => f2 (h.resolve_right (by decide))), (fun h => f3 (h.resolve_right (by decide))), (fun h => f4 (h.resolve_right (by decide))), (fun h => f5 (h.resolve_right (by decide))), (fun h => f6 (h.resolve_right (by decide))), (fun h => f7 (h.resolve_right (by decide))), (fun h => f8 (h.resolve_right (by decide))), (fun h => by obtain ⟨h1, h2, h3⟩ := p9 (h.resolve_right (by decide)); exact ⟨h1, h2, Nat.lt_of_lt_of_le h3 hgrow⟩), (fun h g => (z9 (h.resolve_right (by decide)) (fun g2 => g (.inl g2))).below hb4), (fun h => ⟨.inl (y9 (h.resolve_right (by decide))).1, (y9 (h.resolve_right (by decide))).2.below hb4⟩), (fun _ => ⟨rfl, hsz, by simp⟩), (fun _ _ => Box.new _ _ _), (fun h => absurd (y10 (h.resolve_right (by decide))).1 hnd), (fun h => by obtain ⟨h1, h2, h3⟩ := p11 (h.resolve_right (by decide)); exact ⟨h1, h2, Nat.lt_of_lt_of_le h3 hgrow⟩), (fun h g => (z11 (h.resolve_right (by decide)) (fun g2 => g (.inl g2))).below hb4), (fun h => ⟨.inl (y11 (h.resolve_right (by decide))).1, (y11 (h.resolve_right (by decide))).2.below hb4⟩), (fun h _ => by obtain ⟨_, _, h3⟩ := p9 (h.resolve_right (by decide)); omega), (fun h g => n9_11 (h.resolve_right (by decide)) (g.resolve_right (by decide))), (fun _ h => by obtain ⟨_, _, h3⟩ := p11 (h.resolve_right (by decide)); omega)⟩
          · obtain rfl := Option.some.inj ho
            refine wpOp_e rfl rfl (fun K1 hK1 => ?_)
            have hb4 : Below wx.heap.size wx (wx.alloc (.cells #[.slice none 0 0, .nilFunc] 78)) := (Below.refl _ _).alloc (Nat.le_refl _) _
            have hgrow := hb4.size
            go_simp
            refine hK1 _ _ ⟨x0, x1, x2, x3, x4, x5, x6, x7, x8, x9, x10, _, b9, b10, wx.heap.size, rfl, hbel.trans (hb4.mono hbel.size), (fun h => f0 (h.resolve_right (by decide))), (fun h => f1 (h.resolve_right (by decide))), (fun h => f2 (h.resolve_right (by decide))), (fun h => f3 (h.resolve_right (by decide))), (fun h => f4 (h.resolve_right (by decide))), (fun h => f5 (h.resolve_right (by decide))), (fun h => f6 (h.resolve_right (by decide))), (fun h => f7 (h.resolve_right (by decide))), (fun h => f8 (h.resolve_right (by decide))), (fun h => by obtain ⟨h1, h2, h3⟩ := p9 (h.resolve_right (by decide)); exact ⟨h1, h2, Nat.lt_of_lt_of_le h3 hgrow⟩), (fun h g => (z9 (h.resolve_right (by decide)) (fun g2 => g (.inl g2))).below hb4), (fun h => ⟨.inl (y9 (h.resolve_right (by decide))).1, (y9 (h.resolve_right (by decide))).2.below hb4⟩), (fun h => by obtain ⟨h1, h2, h3⟩ := p10 (h.resolve_right (by decide)); exact ⟨h1, h2, Nat.lt_of_lt_of_le h3 hgrow⟩), (fun h g => (z10 (h.resolve_right (by decide)) (fun g2 => g (.inl g2))).below hb4), (fun h => ⟨.inl (y10 (h.resolve_right (by decide))).1, (y10 (h.resolve_right (by decide))).2.below hb4⟩), (fun _ => ⟨rfl, hsz, by simp⟩), (fun _ _ => Box.new _ _ _), (fun h => absurd (y11 (h.resolve_right (by decide))).1 hnd), (fun h g => n9_10 (h.resolve_right (by decide)) (g.resolve_right (by decide))), (fun h _ => by obtain ⟨_, _, h3⟩ := p9 (h.resolve_right (by decide)); omega), (fun h _ => by obtain ⟨_, _, h3⟩ := p10 (h.resolve_right (by decide)); omega)⟩
          · obtain rfl := Option.some.inj ho
            have d9 : D 9 := hdep { on := 9, ground := Ground.data } (by simp) rfl
            have d2 : D 2 := hdep { on := 2, ground := Ground.data } (by simp) rfl
            have d8 : D 8 := hdep { on := 8, ground := Ground.chain } (by simp) rfl
            have d0 : D 0 := hdep { on := 0, ground := Ground.phase } (by simp) rfl
            have d1 : D 1 := hdep { on := 1, ground := Ground.phase } (by simp) rfl
            have d10 : D 10 := hdep { on := 10, ground := Ground.phase } (by simp) rfl
            have d11 : D 11 := hdep { on := 11, ground := Ground.phase } (by simp) rfl
            obtain rfl := f2 d2
            obtain rfl := f8 d8
            obtain rfl := f0 d0
            obtain rfl := f1 d1
            obtain ⟨rfl, q9, r9⟩ := p9 d9
            obtain ⟨rfl, q10, r10⟩ := p10 d10
            obtain ⟨rfl, q11, r11⟩ := p11 d11
            refine wpOp_e rfl rfl (fun K1 hK1 => ?_)
            have hzb := z9 d9 hnd
            have c0 := hzb.cell 0
            have c1 := hzb.cell 1
            have cf0 := hzb.frozen 0
            have cf1 := hzb.frozen 1
            have cl := hzb.lt
            simp at c0 c1
            have hbt : But (fun k => k = b9) wx ((wx.setCell ⟨b9, 0, none⟩ (.slice s.p s.n s.c)).setCell ⟨b9, 1, none⟩ (.func (.func 60) #[] #[])) := (((But.one wx b9).setAt 0 (.slice s.p s.n s.c)).setAt 1 (.func (.func 60) #[] #[]))
            have hnew : Box ((wx.setCell ⟨b9, 0, none⟩ (.slice s.p s.n s.c)).setCell ⟨b9, 1, none⟩ (.func (.func 60) #[] #[])) b9 #[.slice s.p s.n s.c, .func (.func 60) #[] #[]] 70 := ((hzb.set 0 (.slice s.p s.n s.c)).set 1 (.func (.func 60) #[] #[]))
            have hgrow := hbt.size
            have hbel2 : Below w1.heap.size w1 ((wx.setCell ⟨b9, 0, none⟩ (.slice s.p s.n s.c)).setCell ⟨b9, 1, none⟩ (.func (.func 60) #[] #[])) := hbel.trans (hbt.below hsz fun j hj e => by omega)
            clear hzb
            go_simp
            refine hK1 _ _ ⟨_, _, _, x3, x4, x5, x6, x7, _, _, _, _, b9, b10, b11, rfl, hbel2, (fun h => f0 (h.resolve_right (by decide))), (fun h => f1 (h.resolve_right (by decide))), (fun h => f2 (h.resolve_right (by decide))), (fun h => f3 (h.resolve_right (by decide))), (fun h => f4 (h.resolve_right (by decide))), (fun h => f5 (h.resolve_right (by decide))), (fun h => f6 (h.resolve_right (by decide))), (fun h => f7 (h.resolve_right (by decide))), (fun h => f8 (h.resolve_right (by decide))), (fun h => by obtain ⟨h1, h2, h3⟩ := p9 (h.resolve_right (by decide)); exact ⟨h1, h2, Nat.lt_of_lt_of_le h3 hgrow⟩), (fun _ h => absurd (.inr rfl) h), (fun _ => ⟨.inl d9, hnew⟩), (fun h => by obtain ⟨h1, h2, h3⟩ := p10 (h.resolve_right (by decide)); exact ⟨h1, h2, Nat.lt_of_lt_of_le h3 hgrow⟩), (fun h g => (z10 (h.resolve_right (by decide)) (fun g2 => g (.inl g2))).but hbt (fun e => by first | exact n9_10 (by assumption) (by assumption) e | exact n9_10 (by assumption) (by assumption) e.symm)), (fun h => ⟨.inl (y10 (h.resolve_right (by decide))).1, (y10 (h.resolve_right (by decide))).2.but hbt (fun e => by first | exact n9_10 (by assumption) (by assumption) e | exact n9_10 (by assumption) (by assumption) e.symm)⟩), (fun h => by obtain ⟨h1, h2, h3⟩ := p11 (h.resolve_right (by decide)); exact ⟨h1, h2, Nat.lt_of_lt_of_le h3 hgrow⟩), (fun h g => (z11 (h.resolve_right (by decide)) (fun g2 => g (.inl g2))).but hbt (fun e => by first | exact n9_11 (by assumption) (by assumption) e | exact n9_11 (by assumption) (by assumption) e.symm)), (fun h => ⟨.inl (y11 (h.resolve_right (by decide))).1, (y11 (h.resolve_right (by decide))).2.but hbt (fun e => by first | exact n9_11 (by assumption) (by assumption) e | exact n9_11 (by assumption) (by assumption) e.symm)⟩), (fun h g => n9_10 (h.resolve_right (by decide)) (g.resolve_right (by decide))), (fun h g => n9_11 (h.resolve_right (by decide)) (g.resolve_right (by decide))), (fun h g => n10_11 (h.resolve_right (by decide)) (g.resolve_right (by decide)))⟩
          · obtain rfl := Option.some.inj ho
            have d10 : D 10 := hdep { on := 10, ground := Ground.data } (by simp) rfl
            have d5 : D 5 := hdep { on := 5, ground := Ground.data } (by simp) rfl
            have d12 : D 12 := hdep { on := 12, ground := Ground.chain } (by simp) rfl
            have d0 : D 0 := hdep { on := 0, ground := Ground.phase } (by simp) rfl
            have d1 : D 1 := hdep { on := 1, ground := Ground.phase } (by simp) rfl
            have d2 : D 2 := hdep { on := 2, ground := Ground.phase } (by simp) rfl
            have d3 : D 3 := hdep { on := 3, ground := Ground.phase } (by simp) rfl
            have d4 : D 4 := hdep { on := 4, ground := Ground.phase } (by simp) rfl
            have d9 : D 9 := hdep { on := 9, ground := Ground.phase } (by simp) rfl
            have d11 : D 11 := hdep { on := 11, ground := Ground.phase } (by simp) rfl
            obtain rfl := f5 d5
            obtain rfl := f0 d0
            obtain rfl := f1 d1
            obtain rfl := f2 d2
            obtain rfl := f3 d3
            obtain rfl := f4 d4
            obtain ⟨rfl, q10, r10⟩ := p10 d10
            obtain ⟨rfl, q9, r9⟩ := p9 d9
            obtain ⟨rfl, q11, r11⟩ := p11 d11
            refine wpOp_e rfl rfl (fun K1 hK1 => ?_)
            have hzb := z10 d10 hnd
            have c0 := hzb.cell 0
            have c1 := hzb.cell 1
            have cf0 := hzb.frozen 0
            have cf1 := hzb.frozen 1
            have cl := hzb.lt
            simp at c0 c1
            have hbt : But (fun k => k = b10) wx ((wx.setCell ⟨b10, 0, none⟩ (.slice d.set.p d.set.n d.set.c)).setCell ⟨b10, 1, none⟩ (.func (.func 60) #[] #[])) := (((But.one wx b10).setAt 0 (.slice d.set.p d.set.n d.set.c)).setAt 1 (.func (.func 60) #[] #[]))
            have hnew : Box ((wx.setCell ⟨b10, 0, none⟩ (.slice d.set.p d.set.n d.set.c)).setCell ⟨b10, 1, none⟩ (.func (.func 60) #[] #[])) b10 #[.slice d.set.p d.set.n d.set.c, .func (.func 60) #[] #[]] 70 := ((hzb.set 0 (.slice d.set.p d.set.n d.set.c)).set 1 (.func (.func 60) #[] #[]))
            have hgrow := hbt.size
            have hbel2 : Below w1.heap.size w1 ((wx.setCell ⟨b10, 0, none⟩ (.slice d.set.p d.set.n d.set.c)).setCell ⟨b10, 1, none⟩ (.func (.func 60) #[] #[])) := hbel.trans (hbt.below hsz fun j hj e => by omega)
            clear hzb
            go_simp
            refine hK1 _ _ ⟨_, _, _, _, _, _, x6, x7, x8, _, _, _, b9, b10, b11, rfl, hbel2, (fun h => f0 (h.resolve_right (by decide))), (fun h => f1 (h.resolve_right (by decide))), (fun h => f2 (h.resolve_right (by decide))), (fun h => f3 (h.resolve_right (by decide))), (fun h => f4 (h.resolve_right (by decide))), (fun h => f5 (h.resolve_right (by decide))), (fun h => f6 (h.resolve_right (by decide))), (fun h => f7 (h.resolve_right (by decide))), (fun h => f8 (h.resolve_right (by decide))), (fun h => by obtain ⟨h1, h2, h3⟩ := p9 (h.resolve_right (by decide)); exact ⟨h1, h2, Nat.lt_of_lt_of_le h3 hgrow⟩), (fun h g => (z9 (h.resolve_right (by decide)) (fun g2 => g (.inl g2))).but hbt (fun e => by first | exact n9_10 (by assumption) (by assumption) e | exact n9_10 (by assumption) (by assumption) e.symm)), (fun h => ⟨.inl (y9 (h.resolve_right (by decide))).1, (y9 (h.resolve_right (by decide))).2.but hbt (fun e => by first | exact n9_10 (by assumption) (by assumption) e | exact n9_10 (by assumption) (by assumption) e.symm)⟩), (fun h => by obtain ⟨h1, h2, h3⟩ := p10 (h.resolve_right (by decide)); exact ⟨h1, h2, Nat.lt_of_lt_of_le h3 hgrow⟩), (fun _ h => absurd (.inr rfl) h), (fun _ => ⟨.inl d10, hnew⟩), (fun h => by obtain ⟨h1, h2, h3⟩ := p11 (h.resolve_right (by decide)); exact ⟨h1, h2, Nat.lt_of_lt_of_le h3 hgrow⟩), (fun h g => (z11 (h.resolve_right (by decide)) (fun g2 => g (.inl g2))).but hbt (fun e => by first | exact n10_11 (by assumption) (by assumption) e | exact n10_11 (by assumption) (by assumption) e.symm)), (fun h => ⟨.inl (y11 (h.resolve_right (by decide))).1, (y11 (h.resolve_right (by decide))).2.but hbt (fun e => by first | exact n10_11 (by assumption) (by assumption) e | exact n10_11 (by assumption) (by assumption) e.symm)⟩), (fun h g => n9_10 (h.resolve_right (by decide)) (g.resolve_right (by decide))), (fun h g => n9_11 (h.resolve_right (by decide)) (g.resolve_right (by decide))), (fun h g => n10_11 (h.resolve_right (by decide)) (g.resolve_right (by decide)))⟩
          · obtain rfl := Option.some.inj ho
            have d11 : D 11 := hdep { on := 11, ground := Ground.data } (by simp) rfl
            have d8 : D 8 := hdep { on := 8, ground := Ground.data } (by simp) rfl
            have d13 : D 13 := hdep { on := 13, ground := Ground.chain } (by simp) rfl
            have d0 : D 0 := hdep { on := 0, ground := Ground.phase } (by simp) rfl
            have d1 : D 1 := hdep { on := 1, ground := Ground.phase } (by simp) rfl
            have d2 : D 2 := hdep { on := 2, ground := Ground.phase } (by simp) rfl
            have d3 : D 3 := hdep { on := 3, ground := Ground.phase } (by simp) rfl
            have d4 : D 4 := hdep { on := 4, ground := Ground.phase } (by simp) rfl
            have d5 : D 5 := hdep { on := 5, ground := Ground.phase } (by simp) rfl
            have d6 : D 6 := hdep { on := 6, ground := Ground.phase } (by simp) rfl
            have d7 : D 7 := hdep { on := 7, ground := Ground.phase } (by simp) rfl
            have d9 : D 9 := hdep { on := 9, ground := Ground.phase } (by simp) rfl
            have d10 : D 10 := hdep { on := 10, ground := Ground.phase } (by simp) rfl
            have d12 : D 12 := hdep { on := 12, ground := Ground.phase } (by simp) rfl
            obtain rfl := f8 d8
            obtain rfl := f0 d0
            obtain rfl := f1 d1
            obtain rfl := f2 d2
            obtain rfl := f3 d3
            obtain rfl := f4 d4
            obtain rfl := f5 d5
            obtain rfl := f6 d6
            obtain rfl := f7 d7
            obtain ⟨rfl, q11, r11⟩ := p11 d11
            obtain ⟨rfl, q9, r9⟩ := p9 d9
            obtain ⟨rfl, q10, r10⟩ := p10 d10
            refine wpOp_e rfl rfl (fun K1 hK1 => ?_)
            have hzb := z11 d11 hnd
            have c0 := hzb.cell 0
            have c1 := hzb.cell 1
            have cf0 := hzb.frozen 0
            have cf1 := hzb.frozen 1
            have cl := hzb.lt
            simp at c0 c1
            have hbt : But (fun k => k = b11) wx ((wx.setCell ⟨b11, 0, none⟩ (.slice d.gone.p d.gone.n d.gone.c)).setCell ⟨b11, 1, none⟩ (.func (.func 70) #[] #[])) := (((But.one wx b11).setAt 0 (.slice d.gone.p d.gone.n d.gone.c)).setAt 1 (.func (.func 70) #[] #[]))
            have hnew : Box ((wx.setCell ⟨b11, 0, none⟩ (.slice d.gone.p d.gone.n d.gone.c)).setCell ⟨b11, 1, none⟩ (.func (.func 70) #[] #[])) b11 #[.slice d.gone.p d.gone.n d.gone.c, .func (.func 70) #[] #[]] 78 := ((hzb.set 0 (.slice d.gone.p d.gone.n d.gone.c)).set 1 (.func (.func 70) #[] #[]))
            have hgrow := hbt.size
            have hbel2 : Below w1.heap.size w1 ((wx.setCell ⟨b11, 0, none⟩ (.slice d.gone.p d.gone.n d.gone.c)).setCell ⟨b11, 1, none⟩ (.func (.func 70) #[] #[])) := hbel.trans (hbt.below hsz fun j hj e => by omega)
            clear hzb
            go_simp
            refine hK1 _ _ ⟨_, _, _, _, _, _, _, _, _, _, _, _, b9, b10, b11, rfl, hbel2, (fun h => f0 (h.resolve_right (by decide))), (fun h => f1 (h.resolve_right (by decide))), (fun h => f2 (h.resolve_right (by decide))), (fun h => f3 (h.resolve_right (by decide))), (fun h => f4 (h.resolve_right (by decide))), (fun h => f5 (h.resolve_right (by decide))), (fun h => f6 (h.resolve_right (by decide))), (fun h => f7 (h.resolve_right (by decide))), (fun h => f8 (h.resolve_right (by decide))), (fun h => by obtain ⟨h1, h2, h3⟩ := p9 (h.resolve_right (by decide)); exact ⟨h1, h2, Nat.lt_of_lt_of_le h3 hgrow⟩), (fun h g => (z9 (h.resolve_right (by decide)) (fun g2 => g (.inl g2))).but hbt (fun e => by first | exact n9_11 (by assumption) (by assumption) e | exact n9_11 (by assumption) (by assumption) e.symm)), (fun h => ⟨.inl (y9 (h.resolve_right (by decide))).1, (y9 (h.resolve_right (by decide))).2.but hbt (fun e => by first | exact n9_11 (by assumption) (by assumption) e | exact n9_11 (by assumption) (by assumption) e.symm)⟩), (fun h => by obtain ⟨h1, h2, h3⟩ := p10 (h.resolve_right (by decide)); exact ⟨h1, h2, Nat.lt_of_lt_of_le h3 hgrow⟩), (fun h g => (z10 (h.resolve_right (by decide)) (fun g2 => g (.inl g2))).but hbt (fun e => by first | exact n10_11 (by assumption) (by assumption) e | exact n10_11 (by assumption) (by assumption) e.symm)), (fun h => ⟨.inl (y10 (h.resolve_right (by decide))).1, (y10 (h.resolve_right (by decide))).2.but hbt (fun e => by first | exact n10_11 (by assumption) (by assumption) e | exact n10_11 (by assumption) (by assumption) e.symm)⟩), (fun h => by obtain ⟨h1, h2, h3⟩ := p11 (h.resolve_right (by decide)); exact ⟨h1, h2, Nat.lt_of_lt_of_le h3 hgrow⟩), (fun _ h => absurd (.inr rfl) h), (fun _ => ⟨.inl d11, hnew⟩), (fun h g => n9_10 (h.resolve_right (by decide)) (g.resolve_right (by decide))), (fun h g => n9_11 (h.resolve_right (by decide)) (g.resolve_right (by decide))), (fun h g => n10_11 (h.resolve_right (by decide)) (g.resolve_right (by decide)))⟩
        case fin =>
          rintro D a wx ⟨x0, x1, x2, x3, x4, x5, x6, x7, x8, x9, x10, x11, b9, b10, b11, rfl, hbel, f0, f1, f2, f3, f4, f5, f6, f7, f8, p9, z9, y9, p10, z10, y10, p11, z11, y11, n9_10, n9_11, n10_11⟩ hall
          have d0 := hall 0 (by decide)
          have d1 := hall 1 (by decide)
          have d2 := hall 2 (by decide)
          have d3 := hall 3 (by decide)
          have d4 := hall 4 (by decide)
          have d5 := hall 5 (by decide)
          have d6 := hall 6 (by decide)
          have d7 := hall 7 (by decide)
          have d8 := hall 8 (by decide)
          have d9 := hall 9 (by decide)
          have d10 := hall 10 (by decide)
          have d11 := hall 11 (by decide)
          have d12 := hall 12 (by decide)
          have d13 := hall 13 (by decide)
          have d14 := hall 14 (by decide)
          obtain rfl := f0 d0
          obtain rfl := f1 d1
          obtain rfl := f2 d2
          obtain rfl := f3 d3
          obtain rfl := f4 d4
          obtain rfl := f5 d5
          obtain rfl := f6 d6
          obtain rfl := f7 d7
          obtain rfl := f8 d8
          obtain ⟨rfl, q9, r9⟩ := p9 d9
          obtain ⟨rfl, q10, r10⟩ := p10 d10
          obtain ⟨rfl, q11, r11⟩ := p11 d11
          go_wp2_with fail
          go_meet
          exact ⟨b9, b10, b11, rfl, rfl, rfl, (y9 d12).2, (y10 d13).2, (y11 d14).2, hbel⟩
      case rest =>
        obtain ⟨bo, bs, bg, rfl, rfl, rfl, hbo, hbs, hbg, hbl⟩ := hcut
        obtain ⟨w7, rfl⟩ : ∃ V, V = wc := ⟨wc, rfl⟩
        have HBc : Hid (Below w.heap.size w w7) := HBa.out.trans (hbl.mono HBa.out.size)
        have HBXo := hid hbo
        have HBXs := hid hbs
        have HBXg := hid hbg
        have H7 := hid hbl
        have o0 := hbo.cell 0
        have o1 := hbo.cell 1
        have ol := hbo.lt
        have g0 := hbg.cell 0
        have g1 := hbg.cell 1
        have gl := hbg.lt
        simp at o0 o1 g0 g1
        clear hbo hbs hbg hbl s1 sl d1 d2 dl
        have HWo := hid (woW_SC w7 d.gone s S (HD.out.gone.below HBc.out) (HIs.out.below HBc.out) (fun k hk => Nat.lt_of_lt_of_le (HS.out k hk) HBc.out.size) (by omega))
        go_wp2_with fail
        refine HWo.out.mono ?_
        rintro r w8 ⟨lg, rfl, _, hto, hb8⟩
        have HTo := hid hto
        have H78 := hid hb8
        have HBd : Hid (Below w.heap.size w w8) := HBc.out.trans (hb8.mono HBc.out.size)
        clear hto hb8 o0 o1 ol g0 g1 gl HWo
        go_wp2_with fail
        refine (count_S lg.p lg.n lg.c w8).mono ?_
        rintro r w9 ⟨rfl, hb9⟩
        have H79 : Hid (Below w7.heap.size w7 w9) := H78.out.trans (hb9.mono H78.out.size)
        have HBe : Hid (Below w.heap.size w w9) := HBd.out.trans (hb9.mono HBd.out.size)
        have HLn : Hid (lg.n = (aGone s d).length) := by show _ = _; rw [← LT.toL_len, HTo.out]; rfl
        clear hb9
        by_cases hg : 0 < lg.n
        · have hg' : (0 : Int) < (lg.n : Int) := by omega
          have HR2 : Hid (er = 110) := by show _ = _; rw [HEe.out, if_neg (by rw [HC0.out]; simp), if_neg (by rw [HK0.out]; simp), if_pos (by rw [← HLn.out]; exact hg)]
          have hz := (HZ.out.below H7.out).below H79.out
          have HZq := hid hz
          have z0 := hz.cell 0
          have z1 := hz.cell 1
          have zf0 := hz.frozen 0
          have zf1 := hz.frozen 1
          have zl := hz.lt
          simp at z0 z1
          clear hz
          go_wp2
          have hbt : But (fun k => k = c2) w9 ((w9.setCell ⟨c2, 0, none⟩ (.int .i64 0)).setCell ⟨c2, 1, none⟩ (.slice none 0 0)) := ((But.one w9 c2).setAt 0 _).setAt 1 _
          have hF : Box ((w9.setCell ⟨c2, 0, none⟩ (.int .i64 0)).setCell ⟨c2, 1, none⟩ (.slice none 0 0)) c2 #[.int .i64 0, .slice none 0 0] 24 := (HZq.out.set 0 _).set 1 _
          have f0 := hF.cell 0
          have f1 := hF.cell 1
          simp only [List.getElem?_toArray, List.getElem?_cons_zero, List.getElem?_cons_succ] at f0 f1
          exact bodyPost_ret (v := .tuple #[.agg #[.int .i64 0, .slice none 0 0], .int .i64 110]) (by simp [results, Try.results14, go_sem, f0, f1]) rfl ⟨HBe.out.trans (hbt.below HBe.out.size fun k hk e => by have := HC2.out; omega), fun _ => by rw [HR2.out]; rfl, fun h => absurd (HR2.out.symm.trans h) (by decide)⟩
        · have hg' : ¬ (0 : Int) < (lg.n : Int) := by omega
          have hbo := HBXo.out.below H79.out
          have hbs := HBXs.out.below H79.out
          have hbg := HBXg.out.below H79.out
          have o0 := hbo.cell 0
          have o1 := hbo.cell 1
          have ol := hbo.lt
          have p0 := hbs.cell 0
          have p1 := hbs.cell 1
          have pl := hbs.lt
          have g0 := hbg.cell 0
          have g1 := hbg.cell 1
          have gl := hbg.lt
          simp at o0 o1 p0 p1 g0 g1
          have HW0 : Hid (w.heap.size ≤ w9.heap.size) := HBe.out.size
          clear hbo hbs hbg
          go_upto_region 10 with fail
          obtain ⟨t37, ht37⟩ : ∃ x, x = Value.bool (decide (0 < lg.n)) := ⟨_, rfl⟩
          try rw [← ht37]
          clear ht37
          go_cut [11] (fun x wx => ∃ bz l4, x = .pointer (some ⟨bz, 0, none⟩) ∧ Box wx bz #[.slice l4.p l4.n l4.c, .func (.func 60) #[] #[]] 70 ∧ LT.In elCell wx (fun k => S k ∨ w.heap.size ≤ k) l4 ∧ LT.toL l4 = aSet s d ∧ Below w9.heap.size w9 wx)
          case first =>
            refine wp_region_inv (by kernel_rfl) (fun (D : Nat → Prop) a wx => ∃ (x0 x1 x2 x3 x4 x5 : Value) (bz : Nat) (l2 : LT VT) (l4 : LT VT), a = { tmps := #[.agg #[.int .i64 sn, .slice s.p s.n s.c], .agg #[.int .i64 d.num, .slice d.set.p d.set.n d.set.c, .slice d.gone.p d.gone.n d.gone.c], .pointer (some ⟨w.heap.size, 0, none⟩), .pointer (some ⟨w.heap.size + 1, 0, none⟩), .pointer (some ⟨c2, 0, none⟩), .int .i64 0, .int .i64 (cs : Int), .int .i64 (cd : Int), .pointer (some ⟨bo, 0, none⟩), .pointer (some ⟨bs, 0, none⟩), .pointer (some ⟨bg, 0, none⟩), x5, u12, u13, u14, u15, u16, u17, u18, u19, u20, u21, u22, u23, u24, u25, u26, u27, u28, u29, u30, u31, u32, .agg #[.slice d.gone.p d.gone.n d.gone.c, .func (.func 70) #[] #[]], .agg #[.slice s.p s.n s.c, .func (.func 60) #[] #[]], .agg #[.slice lg.p lg.n lg.c, .func (.func 70) #[] #[]], .int .i64 (lg.n : Int), .bool false, u38, x0, x1, x2, x3, x4, u44, u45, u46, u47, u48, u49, u50, u51, u52, u53], defers := [] } ∧ Below w9.heap.size w9 wx ∧ (D 0 → x0 = .agg #[.slice s.p s.n s.c, .func (.func 60) #[] #[]]) ∧ (D 1 → x1 = .agg #[.slice d.gone.p d.gone.n d.gone.c, .func (.func 70) #[] #[]]) ∧ (D 3 → x3 = .agg #[.slice d.set.p d.set.n d.set.c, .func (.func 60) #[] #[]]) ∧ (D 2 → x2 = .agg #[.slice l2.p l2.n l2.c, .func (.func 60) #[] #[]] ∧ LT.In elCell wx (fun k => (S k ∨ w.heap.size ≤ k) ∧ (D 5 → k ≠ bz)) l2 ∧ l2.toL = woL VT.text id zC (⟨#[]⟩ : ByteArray) s.toL d.gone.toL) ∧ (D 4 → x4 = .agg #[.slice l4.p l4.n l4.c, .func (.func 60) #[] #[]] ∧ LT.In elCell wx (fun k => (S k ∨ w.heap.size ≤ k) ∧ (D 5 → k ≠ bz)) l4 ∧ l4.toL = aSet s d) ∧ (D 5 → x5 = .pointer (some ⟨bz, 0, none⟩) ∧ w9.heap.size ≤ bz ∧ bz < wx.heap.size) ∧ (D 5 → ¬ D 6 → Box wx bz #[.slice none 0 0, .nilFunc] 70) ∧ (D 6 → D 5 ∧ Box wx bz #[.slice l4.p l4.n l4.c, .func (.func 60) #[] #[]] 70) ∧ (D 6 → ∀ j, j < 6 → D j)) ?ext (by kernel_rfl) ?h0 ?step ?fin
            case ext =>
              intro D D' a wx hD h
              have e : D = D' := funext fun j => propext (hD j)
              rw [← e]; exact h
            case h0 =>
              intro D hD
              exact ⟨u39, u40, u41, u42, u43, undef, 0, (ltOf none 0 zC []), (ltOf none 0 zC []), rfl, (Below.refl _ _).drew, fun h => absurd h (hD _), fun h => absurd h (hD _), fun h => absurd h (hD _), fun h => absurd h (hD _), fun h => absurd h (hD _), fun h => absurd h (hD _), fun h _ => absurd h (hD _), fun h => absurd h (hD _), fun h => absurd h (hD _)⟩
            case step =>
              rintro D a wx ⟨x0, x1, x2, x3, x4, x5, bz, l2, l4, rfl, hbel, f0, f1, f3, u2, u4, p5, z5, y5, o6⟩ i o ho hnd hdep
              have hi : i < 7 := (Array.getElem?_eq_some_iff.1 ho).1
              have hsz := hbel.size
              have hsz0 : w.heap.size ≤ w9.heap.size := HW0.out
              obtain rfl | rfl | rfl | rfl | rfl | rfl | rfl : i = 0 ∨ i = 1 ∨ i = 2 ∨ i = 3 ∨ i = 4 ∨ i = 5 ∨ i = 6 := by omega
              · obtain rfl := Option.some.inj ho
                have hnst : ¬ D 6 := fun h => hnd (o6 h 0 (by decide))
                refine wpOp_e rfl rfl (fun K1 hK1 => ?_)
                have cc0 := (World.cell?_of_block (a := ⟨bo, 0, none⟩) (hbel.block _ ol)).trans o0
                have cc1 := (World.cell?_of_block (a := ⟨bo, 1, none⟩) (hbel.block _ ol)).trans o1
                have ccl := Nat.lt_of_lt_of_le ol hbel.size
                have hgrow := Nat.le_refl wx.heap.size
                go_simp
                refine hK1 _ _ ⟨_, x1, x2, x3, x4, x5, bz, l2, l4, rfl, hbel, (fun _ => rfl), (fun h => f1 (h.resolve_right (by decide))), (fun h => f3 (h.resolve_right (by decide))), (fun h => by obtain ⟨h1, h2, h3⟩ := u2 (h.resolve_right (by decide)); exact ⟨h1, (h2).mono fun k hk _ => ⟨hk.1, fun g => hk.2 (g.resolve_right (by decide))⟩, h3⟩), (fun h => by obtain ⟨h1, h2, h3⟩ := u4 (h.resolve_right (by decide)); exact ⟨h1, (h2).mono fun k hk _ => ⟨hk.1, fun g => hk.2 (g.resolve_right (by decide))⟩, h3⟩), (fun h => by obtain ⟨h1, h2, h3⟩ := p5 (h.resolve_right (by decide)); exact ⟨h1, h2, Nat.lt_of_lt_of_le h3 hgrow⟩), (fun h g => (z5 (h.resolve_right (by decide)) (fun g2 => g (.inl g2)))), (fun h => absurd (h.resolve_right (by decide)) hnst), (fun h => absurd (h.resolve_right (by decide)) hnst)⟩
              · obtain rfl := Option.some.inj ho
                have hnst : ¬ D 6 := fun h => hnd (o6 h 1 (by decide))
                refine wpOp_e rfl rfl (fun K1 hK1 => ?_)
                have cc0 := (World.cell?_of_block (a := ⟨bg, 0, none⟩) (hbel.block _ gl)).trans g0
                have cc1 := (World.cell?_of_block (a := ⟨bg, 1, none⟩) (hbel.block _ gl)).trans g1
                have ccl := Nat.lt_of_lt_of_le gl hbel.size
                have hgrow := Nat.le_refl wx.heap.size
                go_simp
                refine hK1 _ _ ⟨x0, _, x2, x3, x4, x5, bz, l2, l4, rfl, hbel, (fun h => f0 (h.resolve_right (by decide))), (fun _ => rfl), (fun h => f3 (h.resolve_right (by decide))), (fun h => by obtain ⟨h1, h2, h3⟩ := u2 (h.resolve_right (by decide)); exact ⟨h1, (h2).mono fun k hk _ => ⟨hk.1, fun g => hk.2 (g.resolve_right (by decide))⟩, h3⟩), (fun h => by obtain ⟨h1, h2, h3⟩ := u4 (h.resolve_right (by decide)); exact ⟨h1, (h2).mono fun k hk _ => ⟨hk.1, fun g => hk.2 (g.resolve_right (by decide))⟩, h3⟩), (fun h => by obtain ⟨h1, h2, h3⟩ := p5 (h.resolve_right (by decide)); exact ⟨h1, h2, Nat.lt_of_lt_of_le h3 hgrow⟩), (fun h g => (z5 (h.resolve_right (by decide)) (fun g2 => g (.inl g2)))), (fun h => absurd (h.resolve_right (by decide)) hnst), (fun h => absurd (h.resolve_right (by decide)) hnst)⟩
              · obtain rfl := Option.some.inj ho
                have d0 : D 0 := hdep { on := 0, ground := Ground.data } (by simp) rfl
                have d1 : D 1 := hdep { on := 1, ground := Ground.data } (by simp) rfl
                obtain rfl := f0 d0
                obtain rfl := f1 d1
                have hnst : ¬ D 6 := fun h => hnd (o6 h 2 (by decide))
                refine wpOp_e rfl rfl (fun K1 hK1 => ?_)
                have hBx : Below w.heap.size w wx := HBe.out.trans (hbel.mono HBe.out.size)
                have hcall := woW_CS wx s d.gone (fun k => ((S k ∨ w.heap.size ≤ k) ∧ (D 5 → k ≠ bz)) ∧ k < wx.heap.size) (((HIs.out).below hBx).mono (fun k hk hl => ⟨⟨.inl hk, fun g e => by obtain ⟨_, h2, _⟩ := p5 g; have := HS.out k hk; omega⟩, hl⟩)) (((HD.out.gone).below hBx).mono (fun k hk hl => ⟨⟨.inl hk, fun g e => by obtain ⟨_, h2, _⟩ := p5 g; have := HS.out k hk; omega⟩, hl⟩)) (fun k hk => hk.2) (by omega)
                refine step_callT 41 (.func 41) #[.tmp 39, .tmp 40] _ rfl rfl Try.f41 Try.func41 (by kernel_rfl) rfl #[.agg #[.slice s.p s.n s.c, .func (.func 60) #[] #[]], .agg #[.slice d.gone.p d.gone.n d.gone.c, .func (.func 70) #[] #[]]] rfl _ hcall (fun e w4 h4 => ?_)
                obtain ⟨l5, rfl, hin4, hto5, hb4⟩ := h4
                have hgrow := hb4.size
                have hin5 : LT.In elCell w4 (fun k => (S k ∨ w.heap.size ≤ k) ∧ ((D 5 ∨ 5 = 2) → k ≠ bz)) l5 := hin4.mono fun k hk _ => by
                  rcases hk with hk | hk
                  · exact ⟨hk.1.1, fun g => hk.1.2 (g.resolve_right (by decide))⟩
                  · exact ⟨.inr (by omega), fun g e => by obtain ⟨_, _, h3⟩ := p5 (g.resolve_right (by decide)); omega⟩
                refine ⟨_, rfl, ?_⟩
                go_simp
                refine hK1 _ _ ⟨_, _, _, x3, x4, x5, bz, l5, l4, rfl, hbel.trans (hb4.mono hbel.size), (fun h => f0 (h.resolve_right (by decide))), (fun h => f1 (h.resolve_right (by decide))), (fun h => f3 (h.resolve_right (by decide))), (fun _ => ⟨rfl, hin5, hto5⟩), (fun h => by obtain ⟨h1, h2, h3⟩ := u4 (h.resolve_right (by decide)); exact ⟨h1, (h2.below hb4).mono fun k hk _ => ⟨hk.1, fun g => hk.2 (g.resolve_right (by decide))⟩, h3⟩), (fun h => by obtain ⟨h1, h2, h3⟩ := p5 (h.resolve_right (by decide)); exact ⟨h1, h2, Nat.lt_of_lt_of_le h3 hgrow⟩), (fun h g => (z5 (h.resolve_right (by decide)) (fun g2 => g (.inl g2))).below hb4), (fun h => absurd (h.resolve_right (by decide)) hnst), (fun h => absurd (h.resolve_right (by decide)) hnst)⟩
              · obtain rfl := Option.some.inj ho
                have hnst : ¬ D 6 := fun h => hnd (o6 h 3 (by decide))
                refine wpOp_e rfl rfl (fun K1 hK1 => ?_)
                have cc0 := (World.cell?_of_block (a := ⟨bs, 0, none⟩) (hbel.block _ pl)).trans p0
                have cc1 := (World.cell?_of_block (a := ⟨bs, 1, none⟩) (hbel.block _ pl)).trans p1
                have ccl := Nat.lt_of_lt_of_le pl hbel.size
                have hgrow := Nat.le_refl wx.heap.size
                go_simp
                refine hK1 _ _ ⟨x0, x1, x2, _, x4, x5, bz, l2, l4, rfl, hbel, (fun h => f0 (h.resolve_right (by decide))), (fun h => f1 (h.resolve_right (by decide))), (fun _ => rfl), (fun h => by obtain ⟨h1, h2, h3⟩ := u2 (h.resolve_right (by decide)); exact ⟨h1, (h2).mono fun k hk _ => ⟨hk.1, fun g => hk.2 (g.resolve_right (by decide))⟩, h3⟩), (fun h => by obtain ⟨h1, h2, h3⟩ := u4 (h.resolve_right (by decide)); exact ⟨h1, (h2).mono fun k hk _ => ⟨hk.1, fun g => hk.2 (g.resolve_right (by decide))⟩, h3⟩), (fun h => by obtain ⟨h1, h2, h3⟩ := p5 (h.resolve_right (by decide)); exact ⟨h1, h2, Nat.lt_of_lt_of_le h3 hgrow⟩), (fun h g => (z5 (h.resolve_right (by decide)) (fun g2 => g (.inl g2)))), (fun h => absurd (h.resolve_right (by decide)) hnst), (fun h => absurd (h.resolve_right (by decide)) hnst)⟩
              · obtain rfl := Option.some.inj ho
                have d2 : D 2 := hdep { on := 2, ground := Ground.data } (by simp) rfl
                have d3 : D 3 := hdep { on := 3, ground := Ground.data } (by simp) rfl
                obtain ⟨rfl, s2, t2⟩ := u2 d2
                obtain rfl := f3 d3
                have hnst : ¬ D 6 := fun h => hnd (o6 h 4 (by decide))
                refine wpOp_e rfl rfl (fun K1 hK1 => ?_)
                have hBx : Below w.heap.size w wx := HBe.out.trans (hbel.mono HBe.out.size)
                have hl2 : l2.n ≤ s.n + d.gone.n := by rw [← LT.toL_len l2, t2]; have := woL_len VT.text id zC (⟨#[]⟩ : ByteArray) s.toL d.gone.toL; rw [LT.toL_len, LT.toL_len] at this; exact this
                have hcall := overW_C wx l2 d.set (fun k => ((S k ∨ w.heap.size ≤ k) ∧ (D 5 → k ≠ bz)) ∧ k < wx.heap.size) (s2.mono (fun k hk hl => ⟨hk, hl⟩)) (((HD.out.set).below hBx).mono (fun k hk hl => ⟨⟨.inl hk, fun g e => by obtain ⟨_, h2, _⟩ := p5 g; have := HS.out k hk; omega⟩, hl⟩)) (fun k hk => hk.2) (by omega)
                refine step_callT 40 (.func 40) #[.tmp 41, .tmp 42] _ rfl rfl Try.f40 Try.func40 (by kernel_rfl) rfl #[.agg #[.slice l2.p l2.n l2.c, .func (.func 60) #[] #[]], .agg #[.slice d.set.p d.set.n d.set.c, .func (.func 60) #[] #[]]] rfl _ hcall (fun e w4 h4 => ?_)
                obtain ⟨l5, rfl, hin4, hto5, hb4⟩ := h4
                rw [t2] at hto5
                have hgrow := hb4.size
                have hin5 : LT.In elCell w4 (fun k => (S k ∨ w.heap.size ≤ k) ∧ ((D 5 ∨ 5 = 4) → k ≠ bz)) l5 := hin4.mono fun k hk _ => by
                  rcases hk with hk | hk
                  · exact ⟨hk.1.1, fun g => hk.1.2 (g.resolve_right (by decide))⟩
                  · exact ⟨.inr (by omega), fun g e => by obtain ⟨_, _, h3⟩ := p5 (g.resolve_right (by decide)); omega⟩
                refine ⟨_, rfl, ?_⟩
                go_simp
                refine hK1 _ _ ⟨x0, x1, _, _, _, x5, bz, l2, l5, rfl, hbel.trans (hb4.mono hbel.size), (fun h => f0 (h.resolve_right (by decide))), (fun h => f1 (h.resolve_right (by decide))), (fun h => f3 (h.resolve_right (by decide))), (fun h => by obtain ⟨h1, h2, h3⟩ := u2 (h.resolve_right (by decide)); exact ⟨h1, (h2.below hb4).mono fun k hk _ => ⟨hk.1, fun g => hk.2 (g.resolve_right (by decide))⟩, h3⟩), (fun _ => ⟨rfl, hin5, hto5⟩), (fun h => by obtain ⟨h1, h2, h3⟩ := p5 (h.resolve_right (by decide)); exact ⟨h1, h2, Nat.lt_of_lt_of_le h3 hgrow⟩), (fun h g => (z5 (h.resolve_right (by decide)) (fun g2 => g (.inl g2))).below hb4), (fun h => absurd (h.resolve_right (by decide)) hnst), (fun h => absurd (h.resolve_right (by decide)) hnst)⟩
              · obtain rfl := Option.some.inj ho
                have hnst : ¬ D 6 := fun h => hnd (o6 h 5 (by decide))
                refine wpOp_e rfl rfl (fun K1 hK1 => ?_)
                have hb4 : Below wx.heap.size wx (wx.alloc (.cells #[.slice none 0 0, .nilFunc] 70)) := (Below.refl _ _).alloc (Nat.le_refl _) _
                have hgrow := hb4.size
                go_simp
                refine hK1 _ _ ⟨x0, x1, x2, x3, x4, _, wx.heap.size, l2, l4, rfl, hbel.trans (hb4.mono hbel.size), (fun h => f0 (h.resolve_right (by decide))), (fun h => f1 (h.resolve_right (by decide))), (fun h => f3 (h.resolve_right (by decide))), (fun h => by obtain ⟨h1, h2, h3⟩ := u2 (h.resolve_right (by decide)); exact ⟨h1, (h2.mono fun k hk hl => ⟨hk.1, fun _ e => by omega⟩).below hb4, h3⟩), (fun h => by obtain ⟨h1, h2, h3⟩ := u4 (h.resolve_right (by decide)); exact ⟨h1, (h2.mono fun k hk hl => ⟨hk.1, fun _ e => by omega⟩).below hb4, h3⟩), (fun _ => ⟨rfl, hsz, by simp⟩), (fun _ _ => Box.new _ _ _), (fun h => absurd (h.resolve_right (by decide)) hnst), (fun h => absurd (h.resolve_right (by decide)) hnst)⟩
              · obtain rfl := Option.some.inj ho
                have d5 : D 5 := hdep { on := 5, ground := Ground.data } (by simp) rfl
                have d4 : D 4 := hdep { on := 4, ground := Ground.data } (by simp) rfl
                have d0 : D 0 := hdep { on := 0, ground := Ground.phase } (by simp) rfl
                have d1 : D 1 := hdep { on := 1, ground := Ground.phase } (by simp) rfl
                have d2 : D 2 := hdep { on := 2, ground := Ground.phase } (by simp) rfl
                have d3 : D 3 := hdep { on := 3, ground := Ground.phase } (by simp) rfl
                obtain ⟨rfl, q5, r5⟩ := p5 d5
                obtain ⟨rfl, s4, t4⟩ := u4 d4
                obtain rfl := f0 d0
                obtain rfl := f1 d1
                obtain ⟨rfl, s2, t2⟩ := u2 d2
                obtain rfl := f3 d3
                refine wpOp_e rfl rfl (fun K1 hK1 => ?_)
                have hzb := z5 d5 hnd
                have c0 := hzb.cell 0
                have c1 := hzb.cell 1
                have cf0 := hzb.frozen 0
                have cf1 := hzb.frozen 1
                have cl := hzb.lt
                simp at c0 c1
                have hbt : But (fun k => k = bz) wx ((wx.setCell ⟨bz, 0, none⟩ (.slice l4.p l4.n l4.c)).setCell ⟨bz, 1, none⟩ (.func (.func 60) #[] #[])) := (((But.one wx bz).setAt 0 (.slice l4.p l4.n l4.c)).setAt 1 (.func (.func 60) #[] #[]))
                have hnew : Box ((wx.setCell ⟨bz, 0, none⟩ (.slice l4.p l4.n l4.c)).setCell ⟨bz, 1, none⟩ (.func (.func 60) #[] #[])) bz #[.slice l4.p l4.n l4.c, .func (.func 60) #[] #[]] 70 := ((hzb.set 0 (.slice l4.p l4.n l4.c)).set 1 (.func (.func 60) #[] #[]))
                have hgrow := hbt.size
                have hbel2 : Below w9.heap.size w9 ((wx.setCell ⟨bz, 0, none⟩ (.slice l4.p l4.n l4.c)).setCell ⟨bz, 1, none⟩ (.func (.func 60) #[] #[])) := hbel.trans (hbt.below hsz fun j hj e => by omega)
                clear hzb
                go_simp
                refine hK1 _ _ ⟨_, _, _, _, _, _, bz, l2, l4, rfl, hbel2, (fun h => f0 (h.resolve_right (by decide))), (fun h => f1 (h.resolve_right (by decide))), (fun h => f3 (h.resolve_right (by decide))), (fun h => by obtain ⟨h1, h2, h3⟩ := u2 (h.resolve_right (by decide)); exact ⟨h1, (h2.but hbt (fun k hk _ e => hk.2 d5 e)).mono fun k hk _ => ⟨hk.1, fun g => hk.2 (g.resolve_right (by decide))⟩, h3⟩), (fun h => by obtain ⟨h1, h2, h3⟩ := u4 (h.resolve_right (by decide)); exact ⟨h1, (h2.but hbt (fun k hk _ e => hk.2 d5 e)).mono fun k hk _ => ⟨hk.1, fun g => hk.2 (g.resolve_right (by decide))⟩, h3⟩), (fun h => by obtain ⟨h1, h2, h3⟩ := p5 (h.resolve_right (by decide)); exact ⟨h1, h2, Nat.lt_of_lt_of_le h3 hgrow⟩), (fun _ h => absurd (.inr rfl) h), (fun _ => ⟨.inl d5, hnew⟩), (fun _ j hj => .inl (by rcases (by omega : j = 0 ∨ j = 1 ∨ j = 2 ∨ j = 3 ∨ j = 4 ∨ j = 5) with rfl | rfl | rfl | rfl | rfl | rfl <;> assumption))⟩
            case fin =>
              rintro D a wx ⟨x0, x1, x2, x3, x4, x5, bz, l2, l4, rfl, hbel, f0, f1, f3, u2, u4, p5, z5, y5, o6⟩ hall
              have d0 := hall 0 (by decide)
              have d1 := hall 1 (by decide)
              have d2 := hall 2 (by decide)
              have d3 := hall 3 (by decide)
              have d4 := hall 4 (by decide)
              have d5 := hall 5 (by decide)
              have d6 := hall 6 (by decide)
              obtain rfl := f0 d0
              obtain rfl := f1 d1
              obtain rfl := f3 d3
              obtain ⟨rfl, s2, t2⟩ := u2 d2
              obtain ⟨rfl, s4, t4⟩ := u4 d4
              obtain ⟨rfl, q5, r5⟩ := p5 d5
              go_wp2_with fail
              go_meet
              exact ⟨bz, l4, rfl, (y5 d6).2, s4.mono (fun k hk _ => hk.1), t4, hbel⟩
          case rest =>
            obtain ⟨c11, ls, rfl, hb11, hin11, hto11, hbl11⟩ := hcut
            obtain ⟨w10, rfl⟩ : ∃ V, V = wc := ⟨wc, rfl⟩
            have HBf : Hid (Below w.heap.size w w10) := HBe.out.trans (hbl11.mono HBe.out.size)
            have HBX11 := hid hb11
            have HL := hid (And.intro hin11 hto11)
            have H10 := hid hbl11
            have q0 := hb11.cell 0
            have q1 := hb11.cell 1
            have ql := hb11.lt
            simp at q0 q1
            have HNs : Hid (ls.n = (aSet s d).length) := by show _ = _; rw [← LT.toL_len, hto11]
            have HZ10 : Hid (Box w10 c2 #[.int .i64 0, .slice none 0 0] 24) := ((HZ.out.below H7.out).below H79.out).below hbl11
            clear hb11 hin11 hto11 hbl11 o0 o1 ol p0 p1 pl g0 g1 gl
            go_wp2_with fail
            refine (count_C ls.p ls.n ls.c w10).mono ?_
            rintro r w11 ⟨rfl, hb12⟩
            have HB11 := hid hb12
            have HBg : Hid (Below w.heap.size w w11) := HBf.out.trans (hb12.mono HBf.out.size)
            clear hb12 q0 q1 ql
            by_cases h64 : 64 < ls.n
            · have h64' : (64 : Int) < (ls.n : Int) := by omega
              have HR2 : Hid (er = 111) := by show _ = _; rw [HEe.out, if_neg (by rw [HC0.out]; simp), if_neg (by rw [HK0.out]; simp), if_neg (by rw [← HLn.out]; exact hg), if_pos (by rw [← HNs.out]; exact h64)]
              have hz := HZ10.out.below HB11.out
              have HZq := hid hz
              have z0 := hz.cell 0
              have z1 := hz.cell 1
              have zf0 := hz.frozen 0
              have zf1 := hz.frozen 1
              have zl := hz.lt
              simp at z0 z1
              clear hz
              go_wp2
              have hbt : But (fun k => k = c2) w11 ((w11.setCell ⟨c2, 0, none⟩ (.int .i64 0)).setCell ⟨c2, 1, none⟩ (.slice none 0 0)) := ((But.one w11 c2).setAt 0 _).setAt 1 _
              have hF : Box ((w11.setCell ⟨c2, 0, none⟩ (.int .i64 0)).setCell ⟨c2, 1, none⟩ (.slice none 0 0)) c2 #[.int .i64 0, .slice none 0 0] 24 := (HZq.out.set 0 _).set 1 _
              have f0 := hF.cell 0
              have f1 := hF.cell 1
              simp only [List.getElem?_toArray, List.getElem?_cons_zero, List.getElem?_cons_succ] at f0 f1
              exact bodyPost_ret (v := .tuple #[.agg #[.int .i64 0, .slice none 0 0], .int .i64 111]) (by simp [results, Try.results14, go_sem, f0, f1]) rfl ⟨HBg.out.trans (hbt.below HBg.out.size fun k hk e => by have := HC2.out; omega), fun _ => by rw [HR2.out]; rfl, fun h => absurd (HR2.out.symm.trans h) (by decide)⟩
            · have h64' : ¬ (64 : Int) < (ls.n : Int) := by omega
              have HR2 : Hid (er = 0) := by show _ = _; rw [HEe.out, if_neg (by rw [HC0.out]; simp), if_neg (by rw [HK0.out]; simp), if_neg (by rw [← HLn.out]; exact hg), if_neg (by rw [← HNs.out]; exact h64)]
              have hb11 := HBX11.out.below HB11.out
              have hxd := ((HXd.out.below H7.out).below H79.out).below (H10.out.trans (HB11.out.mono H10.out.size))
              have q0 := hb11.cell 0
              have ql := hb11.lt
              have d0 := hxd.cell 0
              have dl := hxd.lt
              simp at q0 d0
              have HFr := hid (freshS d.num ls w11 (fun k => S k ∨ w.heap.size ≤ k) (HL.out.1.below HB11.out) (by omega) (fun j hj => by
                have hm : ls.item j ∈ aSet s d := by rw [← HL.out.2]; exact List.mem_of_getElem? (LT.toL_get ls hj)
                rcases ovL_mem hm with h | h
                · obtain ⟨q, hq, e2⟩ := LT.mem_toL (woL_mem h)
                  rw [← e2]; exact HT.out.1 q hq
                · obtain ⟨q, hq, e2⟩ := LT.mem_toL h
                  rw [← e2]; exact HT.out.2 q hq))
              clear hb11 hxd
              go_wp2_with fail
              refine HFr.out.mono ?_
              rintro r w13 ⟨u, rfl, hun, hal, hin, hb13⟩
              have HU := hid (And.intro hun (And.intro hal hin))
              have HB13 := hid hb13
              have hz := (HZ10.out.below HB11.out).below hb13
              have HZq := hid hz
              have z0 := hz.cell 0
              have z1 := hz.cell 1
              have zf0 := hz.frozen 0
              have zf1 := hz.frozen 1
              have zl := hz.lt
              simp at z0 z1
              clear hal hin hb13 hz q0 ql d0 dl HFr hun
              go_wp2
              have hbt : But (fun k => k = c2) w13 ((w13.setCell ⟨c2, 0, none⟩ (.int .i64 d.num)).setCell ⟨c2, 1, none⟩ (.slice u.p u.n u.c)) := ((But.one w13 c2).setAt 0 _).setAt 1 _
              have hF : Box ((w13.setCell ⟨c2, 0, none⟩ (.int .i64 d.num)).setCell ⟨c2, 1, none⟩ (.slice u.p u.n u.c)) c2 #[.int .i64 d.num, .slice u.p u.n u.c] 24 := (HZq.out.set 0 _).set 1 _
              have f0 := hF.cell 0
              have f1 := hF.cell 1
              simp only [List.getElem?_toArray, List.getElem?_cons_zero, List.getElem?_cons_succ] at f0 f1
              have hBz : Below w.heap.size w w13 := HBg.out.trans (HB13.out.mono HBg.out.size)
              have hsz := HBg.out.size
              have hc2l : c2 < w11.heap.size := (HZ10.out.below HB11.out).lt
              have o1 := LT.of_toL HL.out.2 zC
              refine bodyPost_ret (v := .tuple #[.agg #[.int .i64 d.num, .slice u.p u.n u.c], .int .i64 0]) (by simp [results, Try.results14, go_sem, f0, f1]) rfl ⟨hBz.trans (hbt.below hBz.size fun k hk e => by have := HC2.out; omega), fun h => absurd HR2.out h, fun _ => ⟨u, rfl, HU.out.1.trans o1.1, fun j hj => ?_, ?_⟩⟩
              · have hj2 : j < ls.n := by rw [← HU.out.1]; exact hj
                rw [← o1.2 j hj2]
                exact HU.out.2.1 j hj2
              · exact (HU.out.2.2.kept hbt.size (fun k hk hl => hbt.block k hl (by omega))).mono fun k hk _ => by omega
    · have hk1 : ((cd : Int) != 0) = true := by simp; omega
      have HNe := hid hk
      have HR2 : Hid (er = cd) := by show _ = _; rw [HEe.out, if_neg (by rw [HC0.out]; simp), if_pos hk]
      clear hk
      have hz := HZ.out
      have HZq := hid hz
      have z0 := hz.cell 0
      have z1 := hz.cell 1
      have zf0 := hz.frozen 0
      have zf1 := hz.frozen 1
      have zl := hz.lt
      simp at z0 z1
      clear hz
      go_wp2
      have hbt : But (fun k => k = c2) w1 ((w1.setCell ⟨c2, 0, none⟩ (.int .i64 0)).setCell ⟨c2, 1, none⟩ (.slice none 0 0)) := ((But.one w1 c2).setAt 0 _).setAt 1 _
      have hF : Box ((w1.setCell ⟨c2, 0, none⟩ (.int .i64 0)).setCell ⟨c2, 1, none⟩ (.slice none 0 0)) c2 #[.int .i64 0, .slice none 0 0] 24 := (HZq.out.set 0 _).set 1 _
      have f0 := hF.cell 0
      have f1 := hF.cell 1
      simp only [List.getElem?_toArray, List.getElem?_cons_zero, List.getElem?_cons_succ] at f0 f1
      exact bodyPost_ret (v := .tuple #[.agg #[.int .i64 0, .slice none 0 0], .int .i64 (cd : Int)]) (by simp [results, Try.results14, go_sem, f0, f1]) rfl ⟨HBa.out.trans (hbt.below HBa.out.size fun k hk e => by have := HC2.out; omega), fun _ => by rw [HR2.out], fun h => absurd (HR2.out.symm.trans h) HNe.out⟩
  · have hc1 : ((cs : Int) != 0) = true := by simp; omega
    have HNe := hid hc
    have HR2 : Hid (er = cs) := by show _ = _; rw [HEe.out, if_pos hc]
    clear hc
    have hz := HZ0.out
    have HZq := hid hz
    have z0 := hz.cell 0
    have z1 := hz.cell 1
    have zf0 := hz.frozen 0
    have zf1 := hz.frozen 1
    have zl := hz.lt
    simp at z0 z1
    clear hz
    go_wp2
    have hbt : But (fun k => k = c2) w0 ((w0.setCell ⟨c2, 0, none⟩ (.int .i64 0)).setCell ⟨c2, 1, none⟩ (.slice none 0 0)) := ((But.one w0 c2).setAt 0 _).setAt 1 _
    have hF : Box ((w0.setCell ⟨c2, 0, none⟩ (.int .i64 0)).setCell ⟨c2, 1, none⟩ (.slice none 0 0)) c2 #[.int .i64 0, .slice none 0 0] 24 := (HZq.out.set 0 _).set 1 _
    have f0 := hF.cell 0
    have f1 := hF.cell 1
    simp only [List.getElem?_toArray, List.getElem?_cons_zero, List.getElem?_cons_succ] at f0 f1
    exact bodyPost_ret (v := .tuple #[.agg #[.int .i64 0, .slice none 0 0], .int .i64 (cs : Int)]) (by simp [results, Try.results14, go_sem, f0, f1]) rfl ⟨HBq.out.trans (hbt.below HBq.out.size fun k hk e => by have := HC2.out; omega), fun _ => by rw [HR2.out], fun h => absurd (HR2.out.symm.trans h) HNe.out⟩
end Go.Proofs.Ytckopbkhpbhljaa
