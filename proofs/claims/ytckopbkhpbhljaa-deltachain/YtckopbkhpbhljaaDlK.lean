import Derived.Test.YtckopbkhpbhljaaPack16
import Derived.Test.YtckopbkhpbhljaaDlH
import Derived.Test.YtckopbkhpbhljaaDlH2
import Derived.Laws.EntriesVeiled
namespace Go.Proofs.Ytckopbkhpbhljaa
open Go.RowKit
set_option maxRecDepth 8000
/-- the items of one list whose keys the other hasn't -/
def woL {α β : Type} (kA : α → ByteArray) (kB : β → ByteArray) (zA : α) (zB : β) (xs : List α) (ys : List β) : List α := ((mrgF kA kB zA zB (xs.length + ys.length) xs ys).filter fun x => !x.inB).map fun x => x.a
/-- the items of both lists, the second's where both have a key -/
def ovL {α : Type} (k : α → ByteArray) (z : α) (xs ys : List α) : List α := (mrgF k k z z (xs.length + ys.length) xs ys).map fun x => if x.inB = true then x.b else x.a
theorem woL_mem {α β : Type} {kA : α → ByteArray} {kB : β → ByteArray} {zA : α} {zB : β} {xs : List α} {ys : List β} {x : α} (h : x ∈ woL kA kB zA zB xs ys) : x ∈ xs := by
  obtain ⟨v, hv, rfl⟩ := List.mem_map.1 h
  rw [List.mem_filter] at hv
  have hm := mrg_mem _ _ _ _ _ _ _ _ hv.1
  exact hm.1 (hm.2.2.resolve_right (by simpa using hv.2))
theorem ovL_mem {α : Type} {k : α → ByteArray} {z : α} {xs ys : List α} {x : α} (h : x ∈ ovL k z xs ys) : x ∈ xs ∨ x ∈ ys := by
  obtain ⟨v, hv, hx⟩ := List.mem_map.1 h
  have hm := mrg_mem _ _ _ _ _ _ _ _ hv
  by_cases hb : v.inB = true
  · rw [if_pos hb] at hx; rw [← hx]; exact .inr (hm.2.1 hb)
  · rw [if_neg hb] at hx; rw [← hx]; exact .inl (hm.1 (hm.2.2.resolve_right hb))
theorem woL_len {α β : Type} (kA : α → ByteArray) (kB : β → ByteArray) (zA : α) (zB : β) (xs : List α) (ys : List β) : (woL kA kB zA zB xs ys).length ≤ xs.length + ys.length := by
  unfold woL
  rw [List.length_map]
  exact Nat.le_trans (List.length_filter_le _ _) (mrg_len _ _ _ _ _ _ _)
theorem ovL_len {α : Type} (k : α → ByteArray) (z : α) (xs ys : List α) : (ovL k z xs ys).length ≤ xs.length + ys.length := by
  unfold ovL
  rw [List.length_map]
  exact mrg_len _ _ _ _ _ _ _
theorem LT.of_toL {α : Type} {l : LT α} {xs : List α} (h : l.toL = xs) (z : α) : l.n = xs.length ∧ ∀ j, j < l.n → l.item j = xs.getD j z := by
  have h1 : l.n = xs.length := by rw [← h, LT.toL_len]
  refine ⟨h1, fun j hj => ?_⟩
  have h2 := LT.toL_get l hj
  rw [h] at h2
  rw [List.getD_eq_getElem?_getD, h2]; rfl
theorem woW_SC (w : World) (la : LT ByteArray) (lb : LT VT) (S : Nat → Prop) (ha : LT.In elStr w S la) (hb : LT.In elCell w S lb) (hS : ∀ k, S k → k < w.heap.size) (hn : la.n + lb.n ≤ 1000000) :
    Calls Try.prog 38 #[.agg #[.slice la.p la.n la.c, .func (.func 70) #[] #[]], .agg #[.slice lb.p lb.n lb.c, .func (.func 60) #[] #[]]] w fun e w' => ∃ l : LT ByteArray, e = .returned (.agg #[.slice l.p l.n l.c, .func (.func 70) #[] #[]]) ∧ LT.In elStr w' (fun k => S k ∨ w.heap.size ≤ k) l ∧ l.toL = woL id VT.text (⟨#[]⟩ : ByteArray) zC la.toL lb.toL ∧ Below w.heap.size w w' := by
  refine (wo_SC w la lb S ha hb hS hn _ rfl).mono ?_
  rintro e w' ⟨l, h1, h2, h3, h4⟩
  exact ⟨l, h1, h2, by rw [h3]; unfold woL; rw [LT.toL_len, LT.toL_len], h4⟩
theorem woW_CS (w : World) (la : LT VT) (lb : LT ByteArray) (S : Nat → Prop) (ha : LT.In elCell w S la) (hb : LT.In elStr w S lb) (hS : ∀ k, S k → k < w.heap.size) (hn : la.n + lb.n ≤ 1000000) :
    Calls Try.prog 41 #[.agg #[.slice la.p la.n la.c, .func (.func 60) #[] #[]], .agg #[.slice lb.p lb.n lb.c, .func (.func 70) #[] #[]]] w fun e w' => ∃ l : LT VT, e = .returned (.agg #[.slice l.p l.n l.c, .func (.func 60) #[] #[]]) ∧ LT.In elCell w' (fun k => S k ∨ w.heap.size ≤ k) l ∧ l.toL = woL VT.text id zC (⟨#[]⟩ : ByteArray) la.toL lb.toL ∧ Below w.heap.size w w' := by
  refine (wo_CS w la lb S ha hb hS hn _ rfl).mono ?_
  rintro e w' ⟨l, h1, h2, h3, h4⟩
  exact ⟨l, h1, h2, by rw [h3]; unfold woL; rw [LT.toL_len, LT.toL_len], h4⟩
theorem woW_SS (w : World) (la : LT ByteArray) (lb : LT ByteArray) (S : Nat → Prop) (ha : LT.In elStr w S la) (hb : LT.In elStr w S lb) (hS : ∀ k, S k → k < w.heap.size) (hn : la.n + lb.n ≤ 1000000) :
    Calls Try.prog 47 #[.agg #[.slice la.p la.n la.c, .func (.func 70) #[] #[]], .agg #[.slice lb.p lb.n lb.c, .func (.func 70) #[] #[]]] w fun e w' => ∃ l : LT ByteArray, e = .returned (.agg #[.slice l.p l.n l.c, .func (.func 70) #[] #[]]) ∧ LT.In elStr w' (fun k => S k ∨ w.heap.size ≤ k) l ∧ l.toL = woL id id (⟨#[]⟩ : ByteArray) (⟨#[]⟩ : ByteArray) la.toL lb.toL ∧ Below w.heap.size w w' := by
  refine (wo_SS w la lb S ha hb hS hn _ rfl).mono ?_
  rintro e w' ⟨l, h1, h2, h3, h4⟩
  exact ⟨l, h1, h2, by rw [h3]; unfold woL; rw [LT.toL_len, LT.toL_len], h4⟩
theorem overW_C (w : World) (la : LT VT) (lb : LT VT) (S : Nat → Prop) (ha : LT.In elCell w S la) (hb : LT.In elCell w S lb) (hS : ∀ k, S k → k < w.heap.size) (hn : la.n + lb.n ≤ 1000000) :
    Calls Try.prog 40 #[.agg #[.slice la.p la.n la.c, .func (.func 60) #[] #[]], .agg #[.slice lb.p lb.n lb.c, .func (.func 60) #[] #[]]] w fun e w' => ∃ l : LT VT, e = .returned (.agg #[.slice l.p l.n l.c, .func (.func 60) #[] #[]]) ∧ LT.In elCell w' (fun k => S k ∨ w.heap.size ≤ k) l ∧ l.toL = ovL VT.text zC la.toL lb.toL ∧ Below w.heap.size w w' := by
  refine (over_C w la lb S ha hb hS hn _ rfl).mono ?_
  rintro e w' ⟨l, h1, h2, h3, h4⟩
  exact ⟨l, h1, h2, by rw [h3]; unfold ovL; rw [LT.toL_len, LT.toL_len], h4⟩
theorem overW_S (w : World) (la : LT ByteArray) (lb : LT ByteArray) (S : Nat → Prop) (ha : LT.In elStr w S la) (hb : LT.In elStr w S lb) (hS : ∀ k, S k → k < w.heap.size) (hn : la.n + lb.n ≤ 1000000) :
    Calls Try.prog 48 #[.agg #[.slice la.p la.n la.c, .func (.func 70) #[] #[]], .agg #[.slice lb.p lb.n lb.c, .func (.func 70) #[] #[]]] w fun e w' => ∃ l : LT ByteArray, e = .returned (.agg #[.slice l.p l.n l.c, .func (.func 70) #[] #[]]) ∧ LT.In elStr w' (fun k => S k ∨ w.heap.size ≤ k) l ∧ l.toL = ovL id (⟨#[]⟩ : ByteArray) la.toL lb.toL ∧ Below w.heap.size w w' := by
  refine (over_S w la lb S ha hb hS hn _ rfl).mono ?_
  rintro e w' ⟨l, h1, h2, h3, h4⟩
  exact ⟨l, h1, h2, by rw [h3]; unfold ovL; rw [LT.toL_len, LT.toL_len], h4⟩
def jGone (d e : DT) : List ByteArray := woL id id (⟨#[]⟩ : ByteArray) (⟨#[]⟩ : ByteArray) e.gone.toL d.gone.toL
def jSet (d e : DT) : List VT := ovL VT.text zC (woL VT.text id zC (⟨#[]⟩ : ByteArray) d.set.toL e.gone.toL) e.set.toL
def jAll (d e : DT) : List ByteArray := ovL id (⟨#[]⟩ : ByteArray) (woL id VT.text (⟨#[]⟩ : ByteArray) zC d.gone.toL e.set.toL) e.gone.toL
/-- Join's error -/
def joinE (d e : DT) : Nat := if chkD d ≠ 0 then chkD d else if chkD e ≠ 0 then chkD e else if (jGone d e).length < e.gone.n then 110 else if 64 < (jSet d e).length ∨ 64 < (jAll d e).length then 111 else 0
set_option maxRecDepth 60000 in
set_option maxHeartbeats 8000000 in
/-- Join -/
theorem join_any (d e : DT) (w : World) (S : Nat → Prop) (hd : DT.In w S d) (he : DT.In w S e) (hS : ∀ k, S k → k < w.heap.size) (hn : d.set.n ≤ 10000 ∧ d.gone.n ≤ 10000 ∧ e.set.n ≤ 10000 ∧ e.gone.n ≤ 10000) (ht : (∀ j, j < d.set.n → (d.set.item j).total ≤ 10000) ∧ ∀ j, j < e.set.n → (e.set.item j).total ≤ 10000) :
    Calls Try.prog 19 #[.agg #[.int .i64 d.num, .slice d.set.p d.set.n d.set.c, .slice d.gone.p d.gone.n d.gone.c], .agg #[.int .i64 e.num, .slice e.set.p e.set.n e.set.c, .slice e.gone.p e.gone.n e.gone.c]] w fun r w' => Below w.heap.size w w' ∧ (joinE d e ≠ 0 → r = .returned (.tuple #[.agg #[.int .i64 0, .slice none 0 0, .slice none 0 0], .int .i64 (joinE d e : Int)])) ∧ (joinE d e = 0 → ∃ u : DT, r = .returned (.tuple #[.agg #[.int .i64 u.num, .slice u.set.p u.set.n u.set.c, .slice u.gone.p u.gone.n u.gone.c], .int .i64 0]) ∧ DT.Alike ⟨e.num, ltOf none 0 zC (jSet d e), ltOf none 0 (⟨#[]⟩ : ByteArray) (jAll d e)⟩ u ∧ DT.In w' (fun k => w.heap.size ≤ k) u) := by
  obtain ⟨er, her⟩ : ∃ x, x = joinE d e := ⟨_, rfl⟩
  rw [← her]
  have HEr := hid her
  obtain ⟨W, hW⟩ : ∃ V, V = ((w.alloc (.cells #[.int .i64 d.num, .slice d.set.p d.set.n d.set.c, .slice d.gone.p d.gone.n d.gone.c] 30)).alloc (.cells #[.int .i64 e.num, .slice e.set.p e.set.n e.set.c, .slice e.gone.p e.gone.n e.gone.c] 30)).alloc (.cells #[.int .i64 0, .slice none 0 0, .slice none 0 0] 30) := ⟨_, rfl⟩
  have hB : Below w.heap.size w W := by rw [hW]; exact (((Below.refl _ _).alloc (Nat.le_refl _) _).alloc (by simp) _).alloc (by simp; omega) _
  have hWs : W.heap.size = w.heap.size + 3 := by rw [hW]; simp
  have hx0 : Box W w.heap.size #[.int .i64 d.num, .slice d.set.p d.set.n d.set.c, .slice d.gone.p d.gone.n d.gone.c] 30 := by
    rw [hW]; exact ((Box.new w _ _).below ((Below.refl _ _).alloc (Nat.le_refl _) _)).below ((Below.refl _ _).alloc (Nat.le_refl _) _)
  have hx1 : Box W (w.heap.size + 1) #[.int .i64 e.num, .slice e.set.p e.set.n e.set.c, .slice e.gone.p e.gone.n e.gone.c] 30 := by
    have h := Box.new (w.alloc (.cells #[.int .i64 d.num, .slice d.set.p d.set.n d.set.c, .slice d.gone.p d.gone.n d.gone.c] 30)) #[.int .i64 e.num, .slice e.set.p e.set.n e.set.c, .slice e.gone.p e.gone.n e.gone.c] 30
    rw [show (w.alloc (.cells #[.int .i64 d.num, .slice d.set.p d.set.n d.set.c, .slice d.gone.p d.gone.n d.gone.c] 30)).heap.size = w.heap.size + 1 by simp] at h
    rw [hW]; exact h.below ((Below.refl _ _).alloc (Nat.le_refl _) _)
  have hx2 : Box W (w.heap.size + 2) #[.int .i64 0, .slice none 0 0, .slice none 0 0] 30 := by
    have h := Box.new ((w.alloc (.cells #[.int .i64 d.num, .slice d.set.p d.set.n d.set.c, .slice d.gone.p d.gone.n d.gone.c] 30)).alloc (.cells #[.int .i64 e.num, .slice e.set.p e.set.n e.set.c, .slice e.gone.p e.gone.n e.gone.c] 30)) #[.int .i64 0, .slice none 0 0, .slice none 0 0] 30
    rw [show ((w.alloc (.cells #[.int .i64 d.num, .slice d.set.p d.set.n d.set.c, .slice d.gone.p d.gone.n d.gone.c] 30)).alloc (.cells #[.int .i64 e.num, .slice e.set.p e.set.n e.set.c, .slice e.gone.p e.gone.n e.gone.c] 30)).heap.size = w.heap.size + 2 by simp] at h
    rw [hW]; exact h
  obtain ⟨ck, hck⟩ : ∃ c, c = if chkD d ≠ 0 then chkD d else chkD e := ⟨_, rfl⟩
  have HF := hid (first_De d e W S (hd.below hB) (he.below hB) (fun k hk => Nat.lt_of_lt_of_le (hS k hk) hB.size) ck hck)
  have HCk := hid hck
  have HB := hid hB
  have HW := hid hW
  have HWs := hid hWs
  have HX0 := hid hx0
  have HX1 := hid hx1
  have HX2 := hid hx2
  have HD := hid hd
  have HE := hid he
  have HS := hid hS
  have HT := hid ht
  have d0 := hx0.cell 0
  have d1 := hx0.cell 1
  have d2 := hx0.cell 2
  have dl := hx0.lt
  have e0 := hx1.cell 0
  have e1 := hx1.cell 1
  have e2 := hx1.cell 2
  have el := hx1.lt
  simp at d0 d1 d2 e0 e1 e2
  clear hd he hS ht hB hW hWs hx0 hx1 hx2 hck her
  go_enter Try.func19, Try.ntmps19
  go_upto_region 1 with fail
  rw [← HW.out]
  obtain ⟨c2, hc2⟩ : ∃ x, x = w.heap.size + 1 + 1 := ⟨_, rfl⟩
  rw [← hc2]
  have HC2 : Hid (c2 = w.heap.size + 2) := hc2
  clear hc2
  go_wp2_with fail
  refine HF.out.mono ?_
  rintro r w1 ⟨rfl, hb1⟩
  have HB1 := hid hb1
  have HBa : Hid (Below w.heap.size w w1) := HB.out.trans (hb1.mono HB.out.size)
  have hz := HX2.out.below hb1
  rw [← HC2.out] at hz
  have HZ := hid hz
  clear hb1 d0 d1 d2 dl e0 e1 e2 el HF
  by_cases hc : ck = 0
  · have hc1 : ((ck : Int) != 0) = false := by simp [hc]
    have HC0 := hid hc
    clear hc hz
    have hxe := HX1.out.below HB1.out
    have hxd := HX0.out.below HB1.out
    have HXe := hid hxe
    have HXd := hid hxd
    have e1 := hxe.cell 1
    have e2 := hxe.cell 2
    have el := hxe.lt
    simp at e1 e2
    clear hxe hxd
    go_upto_region 4 with fail
    go_cut [7, 8] (fun x y wx => ∃ b6 b7, x = .pointer (some ⟨b6, 0, none⟩) ∧ y = .pointer (some ⟨b7, 0, none⟩) ∧ Box wx b6 #[.slice e.set.p e.set.n e.set.c, .func (.func 60) #[] #[]] 70 ∧ Box wx b7 #[.slice e.gone.p e.gone.n e.gone.c, .func (.func 70) #[] #[]] 78 ∧ w1.heap.size ≤ b6 ∧ w1.heap.size ≤ b7 ∧ Below w1.heap.size w1 wx)
    case first =>
      refine wp_region_inv (by kernel_rfl) (fun (D : Nat → Prop) a wx => ∃ (x0 x1 x2 x3 x4 x5 x6 x7 : Value) (b6 b7 : Nat), a = { tmps := #[.agg #[.int .i64 d.num, .slice d.set.p d.set.n d.set.c, .slice d.gone.p d.gone.n d.gone.c], .agg #[.int .i64 e.num, .slice e.set.p e.set.n e.set.c, .slice e.gone.p e.gone.n e.gone.c], .pointer (some ⟨w.heap.size, 0, none⟩), .pointer (some ⟨w.heap.size + 1, 0, none⟩), .pointer (some ⟨c2, 0, none⟩), .int .i64 0, .int .i64 (ck : Int), x6, x7, undef, undef, .agg #[.int .i64 d.num, .slice d.set.p d.set.n d.set.c, .slice d.gone.p d.gone.n d.gone.c], .agg #[.int .i64 e.num, .slice e.set.p e.set.n e.set.c, .slice e.gone.p e.gone.n e.gone.c], .int .i64 (ck : Int), .int .i64 (ck : Int), .bool false, undef, undef, x0, x1, x2, x3, x4, x5, undef, undef, undef, undef, undef, undef, undef, undef, undef, undef, undef, undef, undef, undef, undef, undef, undef, undef, undef, undef, undef, undef, undef, undef, undef, undef, undef, undef, undef, undef, undef, undef, undef, undef, undef, undef, undef, undef, undef, undef, undef], defers := [] } ∧ Below w1.heap.size w1 wx ∧ (D 0 → x0 = .pointer (some ⟨w.heap.size + 1, 1, none⟩)) ∧ (D 1 → x1 = .slice e.set.p e.set.n e.set.c) ∧ (D 2 → x2 = .agg #[.slice e.set.p e.set.n e.set.c, .func (.func 60) #[] #[]]) ∧ (D 3 → x3 = .pointer (some ⟨w.heap.size + 1, 2, none⟩)) ∧ (D 4 → x4 = .slice e.gone.p e.gone.n e.gone.c) ∧ (D 5 → x5 = .agg #[.slice e.gone.p e.gone.n e.gone.c, .func (.func 70) #[] #[]]) ∧ (D 6 → x6 = .pointer (some ⟨b6, 0, none⟩) ∧ w1.heap.size ≤ b6 ∧ b6 < wx.heap.size) ∧ (D 6 → ¬ D 8 → Box wx b6 #[.slice none 0 0, .nilFunc] 70) ∧ (D 8 → D 6 ∧ Box wx b6 #[.slice e.set.p e.set.n e.set.c, .func (.func 60) #[] #[]] 70) ∧ (D 7 → x7 = .pointer (some ⟨b7, 0, none⟩) ∧ w1.heap.size ≤ b7 ∧ b7 < wx.heap.size) ∧ (D 7 → ¬ D 9 → Box wx b7 #[.slice none 0 0, .nilFunc] 78) ∧ (D 9 → D 7 ∧ Box wx b7 #[.slice e.gone.p e.gone.n e.gone.c, .func (.func 70) #[] #[]] 78) ∧ (D 6 → D 7 → b6 ≠ b7)) ?ext (by kernel_rfl) ?h0 ?step ?fin
      case ext =>
        intro D D' a wx hD h
        have e : D = D' := funext fun j => propext (hD j)
        rw [← e]; exact h
      case h0 =>
        intro D hD
        exact ⟨undef, undef, undef, undef, undef, undef, undef, undef, 0, 0, rfl, (Below.refl _ _).drew, fun h => absurd h (hD _), fun h => absurd h (hD _), fun h => absurd h (hD _), fun h => absurd h (hD _), fun h => absurd h (hD _), fun h => absurd h (hD _), fun h => absurd h (hD _), fun h _ => absurd h (hD _), fun h => absurd h (hD _), fun h => absurd h (hD _), fun h _ => absurd h (hD _), fun h => absurd h (hD _), fun h _ => absurd h (hD _)⟩
      case step =>
        rintro D a wx ⟨x0, x1, x2, x3, x4, x5, x6, x7, b6, b7, rfl, hbel, f0, f1, f2, f3, f4, f5, p6, z6, y6, p7, z7, y7, n6_7⟩ i o ho hnd hdep
        have hi : i < 10 := (Array.getElem?_eq_some_iff.1 ho).1
        have hsz := hbel.size
        obtain rfl | rfl | rfl | rfl | rfl | rfl | rfl | rfl | rfl | rfl : i = 0 ∨ i = 1 ∨ i = 2 ∨ i = 3 ∨ i = 4 ∨ i = 5 ∨ i = 6 ∨ i = 7 ∨ i = 8 ∨ i = 9 := by omega
        · obtain rfl := Option.some.inj ho
          refine wpOp_e rfl rfl (fun K1 hK1 => ?_)
          have hgrow := Nat.le_refl wx.heap.size
          go_simp
          refine hK1 _ _ ⟨_, x1, x2, x3, x4, x5, x6, x7, b6, b7, rfl, hbel, (fun _ => rfl), (fun h => f1 (h.resolve_right (by decide))), (fun h => f2 (h.resolve_right (by decide))), (fun h => f3 (h.resolve_right (by decide))), (fun h => f4 (h.resolve_right (by decide))), (fun h => f5 (h.resolve_right (by decide))), (fun h => by obtain ⟨h1, h2, h3⟩ := p6 (h.resolve_right (by decide)); exact ⟨h1, h2, Nat.lt_of_lt_of_le h3 hgrow⟩), (fun h g => (z6 (h.resolve_right (by decide)) (fun g2 => g (.inl g2)))), (fun h => ⟨.inl (y6 (h.resolve_right (by decide))).1, (y6 (h.resolve_right (by decide))).2⟩), (fun h => by obtain ⟨h1, h2, h3⟩ := p7 (h.resolve_right (by decide)); exact ⟨h1, h2, Nat.lt_of_lt_of_le h3 hgrow⟩), (fun h g => (z7 (h.resolve_right (by decide)) (fun g2 => g (.inl g2)))), (fun h => ⟨.inl (y7 (h.resolve_right (by decide))).1, (y7 (h.resolve_right (by decide))).2⟩), (fun h g => n6_7 (h.resolve_right (by decide)) (g.resolve_right (by decide)))⟩
        · obtain rfl := Option.some.inj ho
          have d0 : D 0 := hdep { on := 0, ground := Ground.data } (by simp) rfl
          obtain rfl := f0 d0
          refine wpOp_e rfl rfl (fun K1 hK1 => ?_)
          have cc := (World.cell?_of_block (a := ⟨w.heap.size + 1, 1, none⟩) (hbel.block _ el)).trans e1
          have ccl := Nat.lt_of_lt_of_le el hbel.size
          have hgrow := Nat.le_refl wx.heap.size
          go_simp
          refine hK1 _ _ ⟨_, _, x2, x3, x4, x5, x6, x7, b6, b7, rfl, hbel, (fun h => f0 (h.resolve_right (by decide))), (fun _ => rfl), (fun h => f2 (h.resolve_right (by decide))), (fun h => f3 (h.resolve_right (by decide))), (fun h => f4 (h.resolve_right (by decide))), (fun h => f5 (h.resolve_right (by decide))), (fun h => by obtain ⟨h1, h2, h3⟩ := p6 (h.resolve_right (by decide)); exact ⟨h1, h2, Nat.lt_of_lt_of_le h3 hgrow⟩), (fun h g => (z6 (h.resolve_right (by decide)) (fun g2 => g (.inl g2)))), (fun h => ⟨.inl (y6 (h.resolve_right (by decide))).1, (y6 (h.resolve_right (by decide))).2⟩), (fun h => by obtain ⟨h1, h2, h3⟩ := p7 (h.resolve_right (by decide)); exact ⟨h1, h2, Nat.lt_of_lt_of_le h3 hgrow⟩), (fun h g => (z7 (h.resolve_right (by decide)) (fun g2 => g (.inl g2)))), (fun h => ⟨.inl (y7 (h.resolve_right (by decide))).1, (y7 (h.resolve_right (by decide))).2⟩), (fun h g => n6_7 (h.resolve_right (by decide)) (g.resolve_right (by decide)))⟩
        · obtain rfl := Option.some.inj ho
          have d1 : D 1 := hdep { on := 1, ground := Ground.data } (by simp) rfl
          obtain rfl := f1 d1
          refine wpOp_e rfl rfl (fun K1 hK1 => ?_)
          refine step_callT 33 (.func 33) #[.tmp 19] _ rfl rfl Try.f33 Try.func33 (by kernel_rfl) rfl #[.slice e.set.p e.set.n e.set.c] rfl _ (mk_C e.set.p e.set.n e.set.c wx) (fun e w4 h4 => ?_)
          obtain ⟨rfl, hb4⟩ := h4
          have hgrow := hb4.size
          refine ⟨_, rfl, ?_⟩
          go_simp
          refine hK1 _ _ ⟨x0, _, _, x3, x4, x5, x6, x7, b6, b7, rfl, hbel.trans (hb4.mono hbel.size), (fun h => f0 (h.resolve_right (by decide))), (fun h => f1 (h.resolve_right (by decide))), (fun _ => rfl), (fun h => f3 (h.resolve_right (by decide))), (fun h => f4 (h.resolve_right (by decide))), (fun h => f5 (h.resolve_right (by decide))), (fun h => by obtain ⟨h1, h2, h3⟩ := p6 (h.resolve_right (by decide)); exact ⟨h1, h2, Nat.lt_of_lt_of_le h3 hgrow⟩), (fun h g => (z6 (h.resolve_right (by decide)) (fun g2 => g (.inl g2))).below hb4), (fun h => ⟨.inl (y6 (h.resolve_right (by decide))).1, (y6 (h.resolve_right (by decide))).2.below hb4⟩), (fun h => by obtain ⟨h1, h2, h3⟩ := p7 (h.resolve_right (by decide)); exact ⟨h1, h2, Nat.lt_of_lt_of_le h3 hgrow⟩), (fun h g => (z7 (h.resolve_right (by decide)) (fun g2 => g (.inl g2))).below hb4), (fun h => ⟨.inl (y7 (h.resolve_right (by decide))).1, (y7 (h.resolve_right (by decide))).2.below hb4⟩), (fun h g => n6_7 (h.resolve_right (by decide)) (g.resolve_right (by decide)))⟩
        · obtain rfl := Option.some.inj ho
          refine wpOp_e rfl rfl (fun K1 hK1 => ?_)
          have hgrow := Nat.le_refl wx.heap.size
          go_simp
          refine hK1 _ _ ⟨x0, x1, x2, _, x4, x5, x6, x7, b6, b7, rfl, hbel, (fun h => f0 (h.resolve_right (by decide))), (fun h => f1 (h.resolve_right (by decide))), (fun h => f2 (h.resolve_right (by decide))), (fun _ => rfl), (fun h => f4 (h.resolve_right (by decide))), (fun h => f5 (h.resolve_right (by decide))), (fun h => by obtain ⟨h1, h2, h3⟩ := p6 (h.resolve_right (by decide)); exact ⟨h1, h2, Nat.lt_of_lt_of_le h3 hgrow⟩), (fun h g => (z6 (h.resolve_right (by decide)) (fun g2 => g (.inl g2)))), (fun h => ⟨.inl (y6 (h.resolve_right (by decide))).1, (y6 (h.resolve_right (by decide))).2⟩), (fun h => by obtain ⟨h1, h2, h3⟩ := p7 (h.resolve_right (by decide)); exact ⟨h1, h2, Nat.lt_of_lt_of_le h3 hgrow⟩), (fun h g => (z7 (h.resolve_right (by decide)) (fun g2 => g (.inl g2)))), (fun h => ⟨.inl (y7 (h.resolve_right (by decide))).1, (y7 (h.resolve_right (by decide))).2⟩), (fun h g => n6_7 (h.resolve_right (by decide)) (g.resolve_right (by decide)))⟩
        · obtain rfl := Option.some.inj ho
          have d3 : D 3 := hdep { on := 3, ground := Ground.data } (by simp) rfl
          obtain rfl := f3 d3
          refine wpOp_e rfl rfl (fun K1 hK1 => ?_)
          have cc := (World.cell?_of_block (a := ⟨w.heap.size + 1, 2, none⟩) (hbel.block _ el)).trans e2
          have ccl := Nat.lt_of_lt_of_le el hbel.size
          have hgrow := Nat.le_refl wx.heap.size
          go_simp
          refine hK1 _ _ ⟨x0, x1, x2, _, _, x5, x6, x7, b6, b7, rfl, hbel, (fun h => f0 (h.resolve_right (by decide))), (fun h => f1 (h.resolve_right (by decide))), (fun h => f2 (h.resolve_right (by decide))), (fun h => f3 (h.resolve_right (by decide))), (fun _ => rfl), (fun h => f5 (h.resolve_right (by decide))), (fun h => by obtain ⟨h1, h2, h3⟩ := p6 (h.resolve_right (by decide)); exact ⟨h1, h2, Nat.lt_of_lt_of_le h3 hgrow⟩), (fun h g => (z6 (h.resolve_right (by decide)) (fun g2 => g (.inl g2)))), (fun h => ⟨.inl (y6 (h.resolve_right (by decide))).1, (y6 (h.resolve_right (by decide))).2⟩), (fun h => by obtain ⟨h1, h2, h3⟩ := p7 (h.resolve_right (by decide)); exact ⟨h1, h2, Nat.lt_of_lt_of_le h3 hgrow⟩), (fun h g => (z7 (h.resolve_right (by decide)) (fun g2 => g (.inl g2)))), (fun h => ⟨.inl (y7 (h.resolve_right (by decide))).1, (y7 (h.resolve_right (by decide))).2⟩), (fun h g => n6_7 (h.resolve_right (by decide)) (g.resolve_right (by decide)))⟩
        · obtain rfl := Option.some.inj ho
          have d4 : D 4 := hdep { on := 4, ground := Ground.data } (by simp) rfl
          have d2 : D 2 := hdep { on := 2, ground := Ground.chain } (by simp) rfl
          obtain rfl := f4 d4
          obtain rfl := f2 d2
          refine wpOp_e rfl rfl (fun K1 hK1 => ?_)
          refine step_callT 37 (.func 37) #[.tmp 22] _ rfl rfl Try.f37 Try.func37 (by kernel_rfl) rfl #[.slice e.gone.p e.gone.n e.gone.c] rfl _ (mk_S e.gone.p e.gone.n e.gone.c wx) (fun e w4 h4 => ?_)
          obtain ⟨rfl, hb4⟩ := h4
          have hgrow := hb4.size
          refine ⟨_, rfl, ?_⟩
          go_simp
          refine hK1 _ _ ⟨x0, x1, _, x3, _, _, x6, x7, b6, b7, rfl, hbel.trans (hb4.mono hbel.size), (fun h => f0 (h.resolve_right (by decide))), (fun h => f1 (h.resolve_right (by decide))), (fun h => f2 (h.resolve_right (by decide))), (fun h => f3 (h.resolve_right (by decide))), (fun h => f4 (h.resolve_right (by decide))), (fun _ => rfl), (fun h => by obtain ⟨h1, h2, h3⟩ := p6 (h.resolve_right (by decide)); exact ⟨h1, h2, Nat.lt_of_lt_of_le h3 hgrow⟩), (fun h g => (z6 (h.resolve_right (by decide)) (fun g2 => g (.inl g2))).below hb4), (fun h => ⟨.inl (y6 (h.resolve_right (by decide))).1, (y6 (h.resolve_right (by decide))).2.below hb4⟩), (fun h => by obtain ⟨h1, h2, h3⟩ := p7 (h.resolve_right (by decide)); exact ⟨h1, h2, Nat.lt_of_lt_of_le h3 hgrow⟩), (fun h g => (z7 (h.resolve_right (by decide)) (fun g2 => g (.inl g2))).below hb4), (fun h => ⟨.inl (y7 (h.resolve_right (by decide))).1, (y7 (h.resolve_right (by decide))).2.below hb4⟩), (fun h g => n6_7 (h.resolve_right (by decide)) (g.resolve_right (by decide)))⟩
        · obtain rfl := Option.some.inj ho
          refine wpOp_e rfl rfl (fun K1 hK1 => ?_)
          have hb4 : Below wx.heap.size wx (wx.alloc (.cells #[.slice none 0 0, .nilFunc] 70)) := (Below.refl _ _).alloc (Nat.le_refl _) _
          have hgrow := hb4.size
          go_simp
          refine hK1 _ _ ⟨x0, x1, x2, x3, x4, x5, _, x7, wx.heap.size, b7, rfl, hbel.trans (hb4.mono hbel.size), (fun h => f0 (h.resolve_right (by decide))), (fun h => f1 (h.resolve_right (by decide))), (fun h => f2 (h.resolve_right (by decide))), (fun h => f3 (h.resolve_right (by decide))), (fun h => f4 (h.resolve_right (by decide))), (fun h => f5 (h.resolve_right (by decide))), (fun _ => ⟨rfl, hsz, by simp⟩), (fun _ _ => Box.new _ _ _), (fun h => absurd (y6 (h.resolve_right (by decide))).1 hnd), (fun h => by obtain ⟨h1, h2, h3⟩ := p7 (h.resolve_right (by decide)); exact ⟨h1, h2, Nat.lt_of_lt_of_le h3 hgrow⟩), (fun h g => (z7 (h.resolve_right (by decide)) (fun g2 => g (.inl g2))).below hb4), (fun h => ⟨.inl (y7 (h.resolve_right (by decide))).1, (y7 (h.resolve_right (by decide))).2.below hb4⟩), (fun _ h => by obtain ⟨_, _, h3⟩ := p7 (h.resolve_right (by decide)); omega)⟩
        · obtain rfl := Option.some.inj ho
          refine wpOp_e rfl rfl (fun K1 hK1 => ?_)
          have hb4 : Below wx.heap.size wx (wx.alloc (.cells #[.slice none 0 0, .nilFunc] 78)) := (Below.refl _ _).alloc (Nat.le_refl _) _
          have hgrow := hb4.size
          go_simp
          refine hK1 _ _ ⟨x0, x1, x2, x3, x4, x5, x6, _, b6, wx.heap.size, rfl, hbel.trans (hb4.mono hbel.size), (fun h => f0 (h.resolve_right (by decide))), (fun h => f1 (h.resolve_right (by decide))), (fun h => f2 (h.resolve_right (by decide))), (fun h => f3 (h.resolve_right (by decide))), (fun h => f4 (h.resolve_right (by decide))), (fun h => f5 (h.resolve_right (by decide))), (fun h => by obtain ⟨h1, h2, h3⟩ := p6 (h.resolve_right (by decide)); exact ⟨h1, h2, Nat.lt_of_lt_of_le h3 hgrow⟩), (fun h g => (z6 (h.resolve_right (by decide)) (fun g2 => g (.inl g2))).below hb4), (fun h => ⟨.inl (y6 (h.resolve_right (by decide))).1, (y6 (h.resolve_right (by decide))).2.below hb4⟩), (fun _ => ⟨rfl, hsz, by simp⟩), (fun _ _ => Box.new _ _ _), (fun h => absurd (y7 (h.resolve_right (by decide))).1 hnd), (fun h _ => by obtain ⟨_, _, h3⟩ := p6 (h.resolve_right (by decide)); omega)⟩
        · obtain rfl := Option.some.inj ho
          have d6 : D 6 := hdep { on := 6, ground := Ground.data } (by simp) rfl
          have d2 : D 2 := hdep { on := 2, ground := Ground.data } (by simp) rfl
          have d5 : D 5 := hdep { on := 5, ground := Ground.chain } (by simp) rfl
          have d0 : D 0 := hdep { on := 0, ground := Ground.phase } (by simp) rfl
          have d1 : D 1 := hdep { on := 1, ground := Ground.phase } (by simp) rfl
          have d7 : D 7 := hdep { on := 7, ground := Ground.phase } (by simp) rfl
          obtain rfl := f2 d2
          obtain rfl := f5 d5
          obtain rfl := f0 d0
          obtain rfl := f1 d1
          obtain ⟨rfl, q6, r6⟩ := p6 d6
          obtain ⟨rfl, q7, r7⟩ := p7 d7
          refine wpOp_e rfl rfl (fun K1 hK1 => ?_)
          have hzb := z6 d6 hnd
          have c0 := hzb.cell 0
          have c1 := hzb.cell 1
          have cf0 := hzb.frozen 0
          have cf1 := hzb.frozen 1
          have cl := hzb.lt
          simp at c0 c1
          have hbt : But (fun k => k = b6) wx ((wx.setCell ⟨b6, 0, none⟩ (.slice e.set.p e.set.n e.set.c)).setCell ⟨b6, 1, none⟩ (.func (.func 60) #[] #[])) := (((But.one wx b6).setAt 0 (.slice e.set.p e.set.n e.set.c)).setAt 1 (.func (.func 60) #[] #[]))
          have hnew : Box ((wx.setCell ⟨b6, 0, none⟩ (.slice e.set.p e.set.n e.set.c)).setCell ⟨b6, 1, none⟩ (.func (.func 60) #[] #[])) b6 #[.slice e.set.p e.set.n e.set.c, .func (.func 60) #[] #[]] 70 := ((hzb.set 0 (.slice e.set.p e.set.n e.set.c)).set 1 (.func (.func 60) #[] #[]))
          have hgrow := hbt.size
          have hbel2 : Below w1.heap.size w1 ((wx.setCell ⟨b6, 0, none⟩ (.slice e.set.p e.set.n e.set.c)).setCell ⟨b6, 1, none⟩ (.func (.func 60) #[] #[])) := hbel.trans (hbt.below hsz fun j hj e => by omega)
          clear hzb
          go_simp
          refine hK1 _ _ ⟨_, _, _, x3, x4, _, _, _, b6, b7, rfl, hbel2, (fun h => f0 (h.resolve_right (by decide))), (fun h => f1 (h.resolve_right (by decide))), (fun h => f2 (h.resolve_right (by decide))), (fun h => f3 (h.resolve_right (by decide))), (fun h => f4 (h.resolve_right (by decide))), (fun h => f5 (h.resolve_right (by decide))), (fun h => by obtain ⟨h1, h2, h3⟩ := p6 (h.resolve_right (by decide)); exact ⟨h1, h2, Nat.lt_of_lt_of_le h3 hgrow⟩), (fun _ h => absurd (.inr rfl) h), (fun _ => ⟨.inl d6, hnew⟩), (fun h => by obtain ⟨h1, h2, h3⟩ := p7 (h.resolve_right (by decide)); exact ⟨h1, h2, Nat.lt_of_lt_of_le h3 hgrow⟩), (fun h g => (z7 (h.resolve_right (by decide)) (fun g2 => g (.inl g2))).but hbt (fun e => by first | exact n6_7 (by assumption) (by assumption) e | exact n6_7 (by assumption) (by assumption) e.symm)), (fun h => ⟨.inl (y7 (h.resolve_right (by decide))).1, (y7 (h.resolve_right (by decide))).2.but hbt (fun e => by first | exact n6_7 (by assumption) (by assumption) e | exact n6_7 (by assumption) (by assumption) e.symm)⟩), (fun h g => n6_7 (h.resolve_right (by decide)) (g.resolve_right (by decide)))⟩
        · obtain rfl := Option.some.inj ho
          have d7 : D 7 := hdep { on := 7, ground := Ground.data } (by simp) rfl
          have d5 : D 5 := hdep { on := 5, ground := Ground.data } (by simp) rfl
          have d8 : D 8 := hdep { on := 8, ground := Ground.chain } (by simp) rfl
          have d0 : D 0 := hdep { on := 0, ground := Ground.phase } (by simp) rfl
          have d1 : D 1 := hdep { on := 1, ground := Ground.phase } (by simp) rfl
          have d2 : D 2 := hdep { on := 2, ground := Ground.phase } (by simp) rfl
          have d3 : D 3 := hdep { on := 3, ground := Ground.phase } (by simp) rfl
          have d4 : D 4 := hdep { on := 4, ground := Ground.phase } (by simp) rfl
          have d6 : D 6 := hdep { on := 6, ground := Ground.phase } (by simp) rfl
          obtain rfl := f5 d5
          obtain rfl := f0 d0
          obtain rfl := f1 d1
          obtain rfl := f2 d2
          obtain rfl := f3 d3
          obtain rfl := f4 d4
          obtain ⟨rfl, q7, r7⟩ := p7 d7
          obtain ⟨rfl, q6, r6⟩ := p6 d6
          refine wpOp_e rfl rfl (fun K1 hK1 => ?_)
          have hzb := z7 d7 hnd
          have c0 := hzb.cell 0
          have c1 := hzb.cell 1
          have cf0 := hzb.frozen 0
          have cf1 := hzb.frozen 1
          have cl := hzb.lt
          simp at c0 c1
          have hbt : But (fun k => k = b7) wx ((wx.setCell ⟨b7, 0, none⟩ (.slice e.gone.p e.gone.n e.gone.c)).setCell ⟨b7, 1, none⟩ (.func (.func 70) #[] #[])) := (((But.one wx b7).setAt 0 (.slice e.gone.p e.gone.n e.gone.c)).setAt 1 (.func (.func 70) #[] #[]))
          have hnew : Box ((wx.setCell ⟨b7, 0, none⟩ (.slice e.gone.p e.gone.n e.gone.c)).setCell ⟨b7, 1, none⟩ (.func (.func 70) #[] #[])) b7 #[.slice e.gone.p e.gone.n e.gone.c, .func (.func 70) #[] #[]] 78 := ((hzb.set 0 (.slice e.gone.p e.gone.n e.gone.c)).set 1 (.func (.func 70) #[] #[]))
          have hgrow := hbt.size
          have hbel2 : Below w1.heap.size w1 ((wx.setCell ⟨b7, 0, none⟩ (.slice e.gone.p e.gone.n e.gone.c)).setCell ⟨b7, 1, none⟩ (.func (.func 70) #[] #[])) := hbel.trans (hbt.below hsz fun j hj e => by omega)
          clear hzb
          go_simp
          refine hK1 _ _ ⟨_, _, _, _, _, _, _, _, b6, b7, rfl, hbel2, (fun h => f0 (h.resolve_right (by decide))), (fun h => f1 (h.resolve_right (by decide))), (fun h => f2 (h.resolve_right (by decide))), (fun h => f3 (h.resolve_right (by decide))), (fun h => f4 (h.resolve_right (by decide))), (fun h => f5 (h.resolve_right (by decide))), (fun h => by obtain ⟨h1, h2, h3⟩ := p6 (h.resolve_right (by decide)); exact ⟨h1, h2, Nat.lt_of_lt_of_le h3 hgrow⟩), (fun h g => (z6 (h.resolve_right (by decide)) (fun g2 => g (.inl g2))).but hbt (fun e => by first | exact n6_7 (by assumption) (by assumption) e | exact n6_7 (by assumption) (by assumption) e.symm)), (fun h => ⟨.inl (y6 (h.resolve_right (by decide))).1, (y6 (h.resolve_right (by decide))).2.but hbt (fun e => by first | exact n6_7 (by assumption) (by assumption) e | exact n6_7 (by assumption) (by assumption) e.symm)⟩), (fun h => by obtain ⟨h1, h2, h3⟩ := p7 (h.resolve_right (by decide)); exact ⟨h1, h2, Nat.lt_of_lt_of_le h3 hgrow⟩), (fun _ h => absurd (.inr rfl) h), (fun _ => ⟨.inl d7, hnew⟩), (fun h g => n6_7 (h.resolve_right (by decide)) (g.resolve_right (by decide)))⟩
      case fin =>
        rintro D a wx ⟨x0, x1, x2, x3, x4, x5, x6, x7, b6, b7, rfl, hbel, f0, f1, f2, f3, f4, f5, p6, z6, y6, p7, z7, y7, n6_7⟩ hall
        have d0 := hall 0 (by decide)
        have d1 := hall 1 (by decide)
        have d2 := hall 2 (by decide)
        have d3 := hall 3 (by decide)
        have d4 := hall 4 (by decide)
        have d5 := hall 5 (by decide)
        have d6 := hall 6 (by decide)
        have d7 := hall 7 (by decide)
        have d8 := hall 8 (by decide)
        have d9 := hall 9 (by decide)
        obtain rfl := f0 d0
        obtain rfl := f1 d1
        obtain rfl := f2 d2
        obtain rfl := f3 d3
        obtain rfl := f4 d4
        obtain rfl := f5 d5
        obtain ⟨rfl, q6, r6⟩ := p6 d6
        obtain ⟨rfl, q7, r7⟩ := p7 d7
        go_wp2_with fail
        go_meet
        exact ⟨b6, b7, rfl, rfl, (y6 d8).2, (y7 d9).2, q6, q7, hbel⟩
    case rest =>
      obtain ⟨b6, b7, rfl, rfl, hb6, hb7, hg6, hg7, hbl4⟩ := hcut
      have HBX6 := hid hb6
      have HBX7 := hid hb7
      have H4 := hid hbl4
      have HBc : Hid (Below w.heap.size w wc) := HBa.out.trans (hbl4.mono HBa.out.size)
      have g0 := hb7.cell 0
      have g1 := hb7.cell 1
      have gl := hb7.lt
      have hxd4 := HXd.out.below hbl4
      have d2 := hxd4.cell 2
      have dl := hxd4.lt
      simp at g0 g1 d2
      clear hb6 hb7 hbl4 hxd4 e1 e2 el
      go_upto_region 5 with fail
      refine wp_region_calmE 30 (fun wx => Below wc.heap.size wc wx) [(0, false), (1, true), (2, false), (6, false)] (.one 3 true [] (.one 4 true [] (.one 5 true [] (.one 7 false [(8, true)] .done)))) (by kernel_rfl) (by kernel_rfl) (Below.refl _ _).drew ?_
      refine wpPre_e rfl rfl (fun K1 hK1 => ?_)
      apply Exists.intro
      refine And.intro (fun wx hx => ?_) ?_
      · have e0 := below_fact hx rfl g0
        have e1 := below_fact hx rfl g1
        have e2 := below_fact hx rfl d2
        go_simp
        try rfl
      go_simp
      refine hK1 _ ?_
      clear hK1 K1
      refine wpPre_e rfl rfl (fun K1 hK1 => ?_)
      apply Exists.intro
      refine And.intro (fun wx hx => ?_) ?_
      · go_simp
        try rfl
      go_simp
      refine hK1 _ ?_
      clear hK1 K1
      refine wpPre_e rfl rfl (fun K1 hK1 => ?_)
      apply Exists.intro
      refine And.intro (fun wx hx => ?_) ?_
      · have e0 := below_fact hx rfl g0
        have e1 := below_fact hx rfl g1
        have e2 := below_fact hx rfl d2
        go_simp
        try rfl
      go_simp
      refine hK1 _ ?_
      clear hK1 K1
      refine wpPre_e rfl rfl (fun K1 hK1 => ?_)
      apply Exists.intro
      refine And.intro (fun wx hx => ?_) ?_
      · have e0 := below_fact hx rfl g0
        have e1 := below_fact hx rfl g1
        have e2 := below_fact hx rfl d2
        go_simp
        try rfl
      go_simp
      refine hK1 _ ?_
      clear hK1 K1
      refine wpPre_nil ?_
      refine wpTr_e rfl (fun K1 hK1 => ?_)
      rw [if_pos (by go_simp)]
      refine step_callT 37 (.func 37) #[.tmp 26] _ rfl rfl Try.f37 Try.func37 (by kernel_rfl) rfl #[.slice d.gone.p d.gone.n d.gone.c] rfl _ (mk_S d.gone.p d.gone.n d.gone.c _) (fun e w5 h4 => ?_)
      obtain ⟨rfl, hb5⟩ := h4
      have H5 : Hid (Below wc.heap.size wc w5) := ((Below.refl _ wc).drew).trans hb5
      clear hb5
      refine ⟨_, rfl, ?_⟩
      go_simp
      refine hK1 _ _ (fun _ => H5.out) ?_
      clear hK1 K1
      refine wpPre_nil ?_
      have HBw5 : Hid (Below w.heap.size w w5) := HBc.out.trans (H5.out.mono HBc.out.size)
      refine wpTr_e rfl (fun K1 hK1 => ?_)
      rw [if_pos (by go_simp)]
      refine step_callT 47 (.func 47) #[.tmp 24, .tmp 27] _ rfl rfl Try.f47 Try.func47 (by kernel_rfl) rfl #[.agg #[.slice e.gone.p e.gone.n e.gone.c, .func (.func 70) #[] #[]], .agg #[.slice d.gone.p d.gone.n d.gone.c, .func (.func 70) #[] #[]]] rfl _ (woW_SS w5 e.gone d.gone S (HE.out.gone.below HBw5.out) (HD.out.gone.below HBw5.out) (fun k hk => Nat.lt_of_lt_of_le (HS.out k hk) HBw5.out.size) (by omega)) (fun e w6 h4 => ?_)
      obtain ⟨lg, rfl, _, hto, hb6⟩ := h4
      have HTo := hid hto
      have H6 : Hid (Below wc.heap.size wc w6) := H5.out.trans (hb6.mono H5.out.size)
      clear hb6 hto
      refine ⟨_, rfl, ?_⟩
      go_simp
      refine hK1 _ _ (fun _ => H6.out) ?_
      clear hK1 K1
      refine wpPre_nil ?_
      refine wpTr_e rfl (fun K1 hK1 => ?_)
      rw [if_pos (by go_simp)]
      refine step_callT 39 (.func 39) #[.tmp 28] _ rfl rfl Try.f39 Try.func39 (by kernel_rfl) rfl #[.agg #[.slice lg.p lg.n lg.c, .func (.func 70) #[] #[]]] rfl _ (count_S lg.p lg.n lg.c w6) (fun e w7 h4 => ?_)
      obtain ⟨rfl, hb7⟩ := h4
      have H7 : Hid (Below wc.heap.size wc w7) := H6.out.trans (hb7.mono H6.out.size)
      clear hb7
      refine ⟨_, rfl, ?_⟩
      go_simp
      refine hK1 _ _ (fun _ => H7.out) ?_
      clear hK1 K1
      refine wpPre_nil ?_
      refine wpTr_e rfl (fun K1 hK1 => ?_)
      rw [if_pos (by go_simp)]
      refine step_callT 39 (.func 39) #[.tmp 30] _ rfl rfl Try.f39 Try.func39 (by kernel_rfl) rfl #[.agg #[.slice e.gone.p e.gone.n e.gone.c, .func (.func 70) #[] #[]]] rfl _ (count_S e.gone.p e.gone.n e.gone.c w7) (fun e w8 h4 => ?_)
      obtain ⟨rfl, hb8⟩ := h4
      have H58 : Hid (Below wc.heap.size wc w8) := H7.out.trans (hb8.mono H7.out.size)
      clear hb8
      refine ⟨_, rfl, ?_⟩
      go_simp
      refine hK1 _ _ (fun h => by cases h) ?_
      clear hK1 K1
      refine wpPre_e rfl rfl (fun K1 hK1 => ?_)
      apply Exists.intro
      refine And.intro (fun wx hx => ?_) ?_
      · go_simp
        try rfl
      go_simp
      refine hK1 _ ?_
      clear hK1 K1
      refine wpPre_nil ?_
      refine wpTr_done ?_
      have HBd : Hid (Below w.heap.size w w8) := HBc.out.trans (H58.out.mono HBc.out.size)
      have HLn : Hid (lg.n = (jGone d e).length) := by show _ = _; rw [← LT.toL_len, HTo.out]; rfl
      by_cases hlt : lg.n < e.gone.n
      · have hlt' : (lg.n : Int) < (e.gone.n : Int) := by omega
        have HR2 : Hid (er = 110) := by
          show _ = _
          rw [HEr.out, joinE]
          have h := HCk.out
          rw [HC0.out] at h
          by_cases h1 : chkD d ≠ 0
          · rw [if_pos h1] at h; exact absurd h.symm h1
          · rw [if_neg h1] at h
            rw [if_neg h1, if_neg (by rw [← h]; simp), if_pos (by rw [← HLn.out]; exact hlt)]
        have hz := (HZ.out.below H4.out).below H58.out
        have HZq := hid hz
        have z0 := hz.cell 0
        have z1 := hz.cell 1
        have z2 := hz.cell 2
        have zf0 := hz.frozen 0
        have zf1 := hz.frozen 1
        have zf2 := hz.frozen 2
        have zl := hz.lt
        simp at z0 z1 z2
        clear hz
        go_wp2
        have hbt : But (fun k => k = c2) w8 (((w8.setCell ⟨c2, 0, none⟩ (.int .i64 0)).setCell ⟨c2, 1, none⟩ (.slice none 0 0)).setCell ⟨c2, 2, none⟩ (.slice none 0 0)) := (((But.one w8 c2).setAt 0 _).setAt 1 _).setAt 2 _
        have hF : Box (((w8.setCell ⟨c2, 0, none⟩ (.int .i64 0)).setCell ⟨c2, 1, none⟩ (.slice none 0 0)).setCell ⟨c2, 2, none⟩ (.slice none 0 0)) c2 #[.int .i64 0, .slice none 0 0, .slice none 0 0] 30 := ((HZq.out.set 0 _).set 1 _).set 2 _
        have f0 := hF.cell 0
        have f1 := hF.cell 1
        have f2 := hF.cell 2
        simp only [List.getElem?_toArray, List.getElem?_cons_zero, List.getElem?_cons_succ] at f0 f1 f2
        exact bodyPost_ret (v := .tuple #[.agg #[.int .i64 0, .slice none 0 0, .slice none 0 0], .int .i64 110]) (by simp [results, Try.results19, go_sem, f0, f1, f2]) rfl ⟨HBd.out.trans (hbt.below HBd.out.size fun k hk e => by have := HC2.out; omega), fun _ => by rw [HR2.out]; rfl, fun h => by have := HR2.out.symm.trans h; omega⟩
      · have hlt' : ¬ (lg.n : Int) < (e.gone.n : Int) := by omega
        have hb6 := HBX6.out.below H58.out
        have hb7 := HBX7.out.below H58.out
        have h60 := hb6.cell 0
        have h61 := hb6.cell 1
        have h6l := hb6.lt
        have h70 := hb7.cell 0
        have h71 := hb7.cell 1
        have h7l := hb7.lt
        have hxd8 := (HXd.out.below H4.out).below H58.out
        have d1 := hxd8.cell 1
        have d2' := hxd8.cell 2
        have dl8 := hxd8.lt
        simp at h60 h61 h70 h71 d1 d2'
        have HW0 : Hid (w.heap.size ≤ w8.heap.size) := HBd.out.size
        clear hb6 hb7 hxd8 g0 g1 gl d2 dl
        go_upto_region 7 with fail
        obtain ⟨t32, ht32⟩ : ∃ x, x = Value.bool (decide (lg.n < e.gone.n)) := ⟨_, rfl⟩
        rw [← ht32]
        clear ht32
        go_cut [9] (fun x wx => ∃ bz l6, x = .pointer (some ⟨bz, 0, none⟩) ∧ Box wx bz #[.slice l6.p l6.n l6.c, .func (.func 60) #[] #[]] 70 ∧ w8.heap.size ≤ bz ∧ LT.In elCell wx (fun k => S k ∨ w.heap.size ≤ k) l6 ∧ LT.toL l6 = jSet d e ∧ Below w8.heap.size w8 wx)
        case first =>
          refine wp_region_inv (by kernel_rfl) (fun (D : Nat → Prop) a wx => ∃ (x0 x1 x2 x3 x4 x5 x6 x7 : Value) (bz : Nat) (l4 : LT VT) (l6 : LT VT), a = { tmps := #[.agg #[.int .i64 d.num, .slice d.set.p d.set.n d.set.c, .slice d.gone.p d.gone.n d.gone.c], .agg #[.int .i64 e.num, .slice e.set.p e.set.n e.set.c, .slice e.gone.p e.gone.n e.gone.c], .pointer (some ⟨w.heap.size, 0, none⟩), .pointer (some ⟨w.heap.size + 1, 0, none⟩), .pointer (some ⟨c2, 0, none⟩), .int .i64 0, .int .i64 (ck : Int), .pointer (some ⟨b6, 0, none⟩), .pointer (some ⟨b7, 0, none⟩), x7, undef, u11, u12, u13, u14, u15, u16, u17, u18, u19, u20, u21, u22, u23, .agg #[.slice e.gone.p e.gone.n e.gone.c, .func (.func 70) #[] #[]], .pointer (some ⟨w.heap.size, 2, none⟩), .slice d.gone.p d.gone.n d.gone.c, .agg #[.slice d.gone.p d.gone.n d.gone.c, .func (.func 70) #[] #[]], .agg #[.slice lg.p lg.n lg.c, .func (.func 70) #[] #[]], .int .i64 (lg.n : Int), .agg #[.slice e.gone.p e.gone.n e.gone.c, .func (.func 70) #[] #[]], .int .i64 (e.gone.n : Int), t32, u33, x0, x1, x2, x3, x4, x5, x6, u41, u42, u43, u44, u45, u46, u47, u48, u49, u50, u51, u52, u53, u54, u55, u56, u57, u58, u59, u60, u61, u62, u63, u64], defers := [] } ∧ Below w8.heap.size w8 wx ∧ (D 0 → x0 = .pointer (some ⟨w.heap.size, 1, none⟩)) ∧ (D 1 → x1 = .slice d.set.p d.set.n d.set.c) ∧ (D 2 → x2 = .agg #[.slice d.set.p d.set.n d.set.c, .func (.func 60) #[] #[]]) ∧ (D 3 → x3 = .agg #[.slice e.gone.p e.gone.n e.gone.c, .func (.func 70) #[] #[]]) ∧ (D 5 → x5 = .agg #[.slice e.set.p e.set.n e.set.c, .func (.func 60) #[] #[]]) ∧ (D 4 → x4 = .agg #[.slice l4.p l4.n l4.c, .func (.func 60) #[] #[]] ∧ LT.In elCell wx (fun k => (S k ∨ w.heap.size ≤ k) ∧ (D 7 → k ≠ bz)) l4 ∧ l4.toL = woL VT.text id zC (⟨#[]⟩ : ByteArray) d.set.toL e.gone.toL) ∧ (D 6 → x6 = .agg #[.slice l6.p l6.n l6.c, .func (.func 60) #[] #[]] ∧ LT.In elCell wx (fun k => (S k ∨ w.heap.size ≤ k) ∧ (D 7 → k ≠ bz)) l6 ∧ l6.toL = jSet d e) ∧ (D 7 → x7 = .pointer (some ⟨bz, 0, none⟩) ∧ w8.heap.size ≤ bz ∧ bz < wx.heap.size) ∧ (D 7 → ¬ D 8 → Box wx bz #[.slice none 0 0, .nilFunc] 70) ∧ (D 8 → D 7 ∧ Box wx bz #[.slice l6.p l6.n l6.c, .func (.func 60) #[] #[]] 70) ∧ (D 8 → ∀ j, j < 8 → D j)) ?ext (by kernel_rfl) ?h0 ?step ?fin
          case ext =>
            intro D D' a wx hD h
            have e : D = D' := funext fun j => propext (hD j)
            rw [← e]; exact h
          case h0 =>
            intro D hD
            exact ⟨u34, u35, u36, u37, u38, u39, u40, undef, 0, (ltOf none 0 zC []), (ltOf none 0 zC []), rfl, (Below.refl _ _).drew, fun h => absurd h (hD _), fun h => absurd h (hD _), fun h => absurd h (hD _), fun h => absurd h (hD _), fun h => absurd h (hD _), fun h => absurd h (hD _), fun h => absurd h (hD _), fun h => absurd h (hD _), fun h _ => absurd h (hD _), fun h => absurd h (hD _), fun h => absurd h (hD _)⟩
          case step =>
            rintro D a wx ⟨x0, x1, x2, x3, x4, x5, x6, x7, bz, l4, l6, rfl, hbel, f0, f1, f2, f3, f5, u4, u6, p7, z7, y7, o8⟩ i o ho hnd hdep
            have hi : i < 9 := (Array.getElem?_eq_some_iff.1 ho).1
            have hsz := hbel.size
            have hsz0 : w.heap.size ≤ w8.heap.size := HW0.out
            obtain rfl | rfl | rfl | rfl | rfl | rfl | rfl | rfl | rfl : i = 0 ∨ i = 1 ∨ i = 2 ∨ i = 3 ∨ i = 4 ∨ i = 5 ∨ i = 6 ∨ i = 7 ∨ i = 8 := by omega
            · obtain rfl := Option.some.inj ho
              have hnst : ¬ D 8 := fun h => hnd (o8 h 0 (by decide))
              refine wpOp_e rfl rfl (fun K1 hK1 => ?_)
              have hgrow := Nat.le_refl wx.heap.size
              go_simp
              refine hK1 _ _ ⟨_, x1, x2, x3, x4, x5, x6, x7, bz, l4, l6, rfl, hbel, (fun _ => rfl), (fun h => f1 (h.resolve_right (by decide))), (fun h => f2 (h.resolve_right (by decide))), (fun h => f3 (h.resolve_right (by decide))), (fun h => f5 (h.resolve_right (by decide))), (fun h => by obtain ⟨h1, h2, h3⟩ := u4 (h.resolve_right (by decide)); exact ⟨h1, (h2).mono fun k hk _ => ⟨hk.1, fun g => hk.2 (g.resolve_right (by decide))⟩, h3⟩), (fun h => by obtain ⟨h1, h2, h3⟩ := u6 (h.resolve_right (by decide)); exact ⟨h1, (h2).mono fun k hk _ => ⟨hk.1, fun g => hk.2 (g.resolve_right (by decide))⟩, h3⟩), (fun h => by obtain ⟨h1, h2, h3⟩ := p7 (h.resolve_right (by decide)); exact ⟨h1, h2, Nat.lt_of_lt_of_le h3 hgrow⟩), (fun h g => (z7 (h.resolve_right (by decide)) (fun g2 => g (.inl g2)))), (fun h => absurd (h.resolve_right (by decide)) hnst), (fun h => absurd (h.resolve_right (by decide)) hnst)⟩
            · obtain rfl := Option.some.inj ho
              have d0 : D 0 := hdep { on := 0, ground := Ground.data } (by simp) rfl
              obtain rfl := f0 d0
              have hnst : ¬ D 8 := fun h => hnd (o8 h 1 (by decide))
              refine wpOp_e rfl rfl (fun K1 hK1 => ?_)
              have cc0 := (World.cell?_of_block (a := ⟨w.heap.size, 1, none⟩) (hbel.block _ dl8)).trans d1
              have ccl := Nat.lt_of_lt_of_le dl8 hbel.size
              have hgrow := Nat.le_refl wx.heap.size
              go_simp
              refine hK1 _ _ ⟨_, _, x2, x3, x4, x5, x6, x7, bz, l4, l6, rfl, hbel, (fun h => f0 (h.resolve_right (by decide))), (fun _ => rfl), (fun h => f2 (h.resolve_right (by decide))), (fun h => f3 (h.resolve_right (by decide))), (fun h => f5 (h.resolve_right (by decide))), (fun h => by obtain ⟨h1, h2, h3⟩ := u4 (h.resolve_right (by decide)); exact ⟨h1, (h2).mono fun k hk _ => ⟨hk.1, fun g => hk.2 (g.resolve_right (by decide))⟩, h3⟩), (fun h => by obtain ⟨h1, h2, h3⟩ := u6 (h.resolve_right (by decide)); exact ⟨h1, (h2).mono fun k hk _ => ⟨hk.1, fun g => hk.2 (g.resolve_right (by decide))⟩, h3⟩), (fun h => by obtain ⟨h1, h2, h3⟩ := p7 (h.resolve_right (by decide)); exact ⟨h1, h2, Nat.lt_of_lt_of_le h3 hgrow⟩), (fun h g => (z7 (h.resolve_right (by decide)) (fun g2 => g (.inl g2)))), (fun h => absurd (h.resolve_right (by decide)) hnst), (fun h => absurd (h.resolve_right (by decide)) hnst)⟩
            · obtain rfl := Option.some.inj ho
              have d1 : D 1 := hdep { on := 1, ground := Ground.data } (by simp) rfl
              obtain rfl := f1 d1
              have hnst : ¬ D 8 := fun h => hnd (o8 h 2 (by decide))
              refine wpOp_e rfl rfl (fun K1 hK1 => ?_)
              refine step_callT 33 (.func 33) #[.tmp 35] _ rfl rfl Try.f33 Try.func33 (by kernel_rfl) rfl #[.slice d.set.p d.set.n d.set.c] rfl _ (mk_C d.set.p d.set.n d.set.c wx) (fun e w4 h4 => ?_)
              obtain ⟨rfl, hb4⟩ := h4
              have hgrow := hb4.size
              refine ⟨_, rfl, ?_⟩
              go_simp
              refine hK1 _ _ ⟨x0, _, _, x3, x4, x5, x6, x7, bz, l4, l6, rfl, hbel.trans (hb4.mono hbel.size), (fun h => f0 (h.resolve_right (by decide))), (fun h => f1 (h.resolve_right (by decide))), (fun _ => rfl), (fun h => f3 (h.resolve_right (by decide))), (fun h => f5 (h.resolve_right (by decide))), (fun h => by obtain ⟨h1, h2, h3⟩ := u4 (h.resolve_right (by decide)); exact ⟨h1, (h2.below hb4).mono fun k hk _ => ⟨hk.1, fun g => hk.2 (g.resolve_right (by decide))⟩, h3⟩), (fun h => by obtain ⟨h1, h2, h3⟩ := u6 (h.resolve_right (by decide)); exact ⟨h1, (h2.below hb4).mono fun k hk _ => ⟨hk.1, fun g => hk.2 (g.resolve_right (by decide))⟩, h3⟩), (fun h => by obtain ⟨h1, h2, h3⟩ := p7 (h.resolve_right (by decide)); exact ⟨h1, h2, Nat.lt_of_lt_of_le h3 hgrow⟩), (fun h g => (z7 (h.resolve_right (by decide)) (fun g2 => g (.inl g2))).below hb4), (fun h => absurd (h.resolve_right (by decide)) hnst), (fun h => absurd (h.resolve_right (by decide)) hnst)⟩
            · obtain rfl := Option.some.inj ho
              have hnst : ¬ D 8 := fun h => hnd (o8 h 3 (by decide))
              refine wpOp_e rfl rfl (fun K1 hK1 => ?_)
              have cc0 := (World.cell?_of_block (a := ⟨b7, 0, none⟩) (hbel.block _ h7l)).trans h70
              have cc1 := (World.cell?_of_block (a := ⟨b7, 1, none⟩) (hbel.block _ h7l)).trans h71
              have ccl := Nat.lt_of_lt_of_le h7l hbel.size
              have hgrow := Nat.le_refl wx.heap.size
              go_simp
              refine hK1 _ _ ⟨x0, x1, x2, _, x4, x5, x6, x7, bz, l4, l6, rfl, hbel, (fun h => f0 (h.resolve_right (by decide))), (fun h => f1 (h.resolve_right (by decide))), (fun h => f2 (h.resolve_right (by decide))), (fun _ => rfl), (fun h => f5 (h.resolve_right (by decide))), (fun h => by obtain ⟨h1, h2, h3⟩ := u4 (h.resolve_right (by decide)); exact ⟨h1, (h2).mono fun k hk _ => ⟨hk.1, fun g => hk.2 (g.resolve_right (by decide))⟩, h3⟩), (fun h => by obtain ⟨h1, h2, h3⟩ := u6 (h.resolve_right (by decide)); exact ⟨h1, (h2).mono fun k hk _ => ⟨hk.1, fun g => hk.2 (g.resolve_right (by decide))⟩, h3⟩), (fun h => by obtain ⟨h1, h2, h3⟩ := p7 (h.resolve_right (by decide)); exact ⟨h1, h2, Nat.lt_of_lt_of_le h3 hgrow⟩), (fun h g => (z7 (h.resolve_right (by decide)) (fun g2 => g (.inl g2)))), (fun h => absurd (h.resolve_right (by decide)) hnst), (fun h => absurd (h.resolve_right (by decide)) hnst)⟩
            · obtain rfl := Option.some.inj ho
              have d2 : D 2 := hdep { on := 2, ground := Ground.data } (by simp) rfl
              have d3 : D 3 := hdep { on := 3, ground := Ground.data } (by simp) rfl
              obtain rfl := f2 d2
              obtain rfl := f3 d3
              have hnst : ¬ D 8 := fun h => hnd (o8 h 4 (by decide))
              refine wpOp_e rfl rfl (fun K1 hK1 => ?_)
              have hBx : Below w.heap.size w wx := HBd.out.trans (hbel.mono HBd.out.size)
              have hcall := woW_CS wx d.set e.gone (fun k => ((S k ∨ w.heap.size ≤ k) ∧ (D 7 → k ≠ bz)) ∧ k < wx.heap.size) (((HD.out.set).below hBx).mono (fun k hk hl => ⟨⟨.inl hk, fun g e => by obtain ⟨_, h2, _⟩ := p7 g; have := HS.out k hk; omega⟩, hl⟩)) (((HE.out.gone).below hBx).mono (fun k hk hl => ⟨⟨.inl hk, fun g e => by obtain ⟨_, h2, _⟩ := p7 g; have := HS.out k hk; omega⟩, hl⟩)) (fun k hk => hk.2) (by omega)
              refine step_callT 41 (.func 41) #[.tmp 36, .tmp 37] _ rfl rfl Try.f41 Try.func41 (by kernel_rfl) rfl #[.agg #[.slice d.set.p d.set.n d.set.c, .func (.func 60) #[] #[]], .agg #[.slice e.gone.p e.gone.n e.gone.c, .func (.func 70) #[] #[]]] rfl _ hcall (fun e w4 h4 => ?_)
              obtain ⟨l5, rfl, hin4, hto5, hb4⟩ := h4
              have hgrow := hb4.size
              have hin5 : LT.In elCell w4 (fun k => (S k ∨ w.heap.size ≤ k) ∧ ((D 7 ∨ 7 = 4) → k ≠ bz)) l5 := hin4.mono fun k hk _ => by
                rcases hk with hk | hk
                · exact ⟨hk.1.1, fun g => hk.1.2 (g.resolve_right (by decide))⟩
                · exact ⟨.inr (by omega), fun g e => by obtain ⟨_, _, h3⟩ := p7 (g.resolve_right (by decide)); omega⟩
              refine ⟨_, rfl, ?_⟩
              go_simp
              refine hK1 _ _ ⟨x0, x1, _, _, _, x5, x6, x7, bz, l5, l6, rfl, hbel.trans (hb4.mono hbel.size), (fun h => f0 (h.resolve_right (by decide))), (fun h => f1 (h.resolve_right (by decide))), (fun h => f2 (h.resolve_right (by decide))), (fun h => f3 (h.resolve_right (by decide))), (fun h => f5 (h.resolve_right (by decide))), (fun _ => ⟨rfl, hin5, hto5⟩), (fun h => by obtain ⟨h1, h2, h3⟩ := u6 (h.resolve_right (by decide)); exact ⟨h1, (h2.below hb4).mono fun k hk _ => ⟨hk.1, fun g => hk.2 (g.resolve_right (by decide))⟩, h3⟩), (fun h => by obtain ⟨h1, h2, h3⟩ := p7 (h.resolve_right (by decide)); exact ⟨h1, h2, Nat.lt_of_lt_of_le h3 hgrow⟩), (fun h g => (z7 (h.resolve_right (by decide)) (fun g2 => g (.inl g2))).below hb4), (fun h => absurd (h.resolve_right (by decide)) hnst), (fun h => absurd (h.resolve_right (by decide)) hnst)⟩
            · obtain rfl := Option.some.inj ho
              have hnst : ¬ D 8 := fun h => hnd (o8 h 5 (by decide))
              refine wpOp_e rfl rfl (fun K1 hK1 => ?_)
              have cc0 := (World.cell?_of_block (a := ⟨b6, 0, none⟩) (hbel.block _ h6l)).trans h60
              have cc1 := (World.cell?_of_block (a := ⟨b6, 1, none⟩) (hbel.block _ h6l)).trans h61
              have ccl := Nat.lt_of_lt_of_le h6l hbel.size
              have hgrow := Nat.le_refl wx.heap.size
              go_simp
              refine hK1 _ _ ⟨x0, x1, x2, x3, x4, _, x6, x7, bz, l4, l6, rfl, hbel, (fun h => f0 (h.resolve_right (by decide))), (fun h => f1 (h.resolve_right (by decide))), (fun h => f2 (h.resolve_right (by decide))), (fun h => f3 (h.resolve_right (by decide))), (fun _ => rfl), (fun h => by obtain ⟨h1, h2, h3⟩ := u4 (h.resolve_right (by decide)); exact ⟨h1, (h2).mono fun k hk _ => ⟨hk.1, fun g => hk.2 (g.resolve_right (by decide))⟩, h3⟩), (fun h => by obtain ⟨h1, h2, h3⟩ := u6 (h.resolve_right (by decide)); exact ⟨h1, (h2).mono fun k hk _ => ⟨hk.1, fun g => hk.2 (g.resolve_right (by decide))⟩, h3⟩), (fun h => by obtain ⟨h1, h2, h3⟩ := p7 (h.resolve_right (by decide)); exact ⟨h1, h2, Nat.lt_of_lt_of_le h3 hgrow⟩), (fun h g => (z7 (h.resolve_right (by decide)) (fun g2 => g (.inl g2)))), (fun h => absurd (h.resolve_right (by decide)) hnst), (fun h => absurd (h.resolve_right (by decide)) hnst)⟩
            · obtain rfl := Option.some.inj ho
              have d4 : D 4 := hdep { on := 4, ground := Ground.data } (by simp) rfl
              have d5 : D 5 := hdep { on := 5, ground := Ground.data } (by simp) rfl
              obtain ⟨rfl, s4, t4⟩ := u4 d4
              obtain rfl := f5 d5
              have hnst : ¬ D 8 := fun h => hnd (o8 h 6 (by decide))
              refine wpOp_e rfl rfl (fun K1 hK1 => ?_)
              have hBx : Below w.heap.size w wx := HBd.out.trans (hbel.mono HBd.out.size)
              have hl4 : l4.n ≤ d.set.n + e.gone.n := by rw [← LT.toL_len l4, t4]; have := woL_len VT.text id zC (⟨#[]⟩ : ByteArray) d.set.toL e.gone.toL; rw [LT.toL_len, LT.toL_len] at this; exact this
              have hcall := overW_C wx l4 e.set (fun k => ((S k ∨ w.heap.size ≤ k) ∧ (D 7 → k ≠ bz)) ∧ k < wx.heap.size) (s4.mono (fun k hk hl => ⟨hk, hl⟩)) (((HE.out.set).below hBx).mono (fun k hk hl => ⟨⟨.inl hk, fun g e => by obtain ⟨_, h2, _⟩ := p7 g; have := HS.out k hk; omega⟩, hl⟩)) (fun k hk => hk.2) (by omega)
              refine step_callT 40 (.func 40) #[.tmp 38, .tmp 39] _ rfl rfl Try.f40 Try.func40 (by kernel_rfl) rfl #[.agg #[.slice l4.p l4.n l4.c, .func (.func 60) #[] #[]], .agg #[.slice e.set.p e.set.n e.set.c, .func (.func 60) #[] #[]]] rfl _ hcall (fun e w4 h4 => ?_)
              obtain ⟨l5, rfl, hin4, hto5, hb4⟩ := h4
              rw [t4] at hto5
              have hgrow := hb4.size
              have hin5 : LT.In elCell w4 (fun k => (S k ∨ w.heap.size ≤ k) ∧ ((D 7 ∨ 7 = 6) → k ≠ bz)) l5 := hin4.mono fun k hk _ => by
                rcases hk with hk | hk
                · exact ⟨hk.1.1, fun g => hk.1.2 (g.resolve_right (by decide))⟩
                · exact ⟨.inr (by omega), fun g e => by obtain ⟨_, _, h3⟩ := p7 (g.resolve_right (by decide)); omega⟩
              refine ⟨_, rfl, ?_⟩
              go_simp
              refine hK1 _ _ ⟨x0, x1, x2, x3, _, _, _, x7, bz, l4, l5, rfl, hbel.trans (hb4.mono hbel.size), (fun h => f0 (h.resolve_right (by decide))), (fun h => f1 (h.resolve_right (by decide))), (fun h => f2 (h.resolve_right (by decide))), (fun h => f3 (h.resolve_right (by decide))), (fun h => f5 (h.resolve_right (by decide))), (fun h => by obtain ⟨h1, h2, h3⟩ := u4 (h.resolve_right (by decide)); exact ⟨h1, (h2.below hb4).mono fun k hk _ => ⟨hk.1, fun g => hk.2 (g.resolve_right (by decide))⟩, h3⟩), (fun _ => ⟨rfl, hin5, hto5⟩), (fun h => by obtain ⟨h1, h2, h3⟩ := p7 (h.resolve_right (by decide)); exact ⟨h1, h2, Nat.lt_of_lt_of_le h3 hgrow⟩), (fun h g => (z7 (h.resolve_right (by decide)) (fun g2 => g (.inl g2))).below hb4), (fun h => absurd (h.resolve_right (by decide)) hnst), (fun h => absurd (h.resolve_right (by decide)) hnst)⟩
            · obtain rfl := Option.some.inj ho
              have hnst : ¬ D 8 := fun h => hnd (o8 h 7 (by decide))
              refine wpOp_e rfl rfl (fun K1 hK1 => ?_)
              have hb4 : Below wx.heap.size wx (wx.alloc (.cells #[.slice none 0 0, .nilFunc] 70)) := (Below.refl _ _).alloc (Nat.le_refl _) _
              have hgrow := hb4.size
              go_simp
              refine hK1 _ _ ⟨x0, x1, x2, x3, x4, x5, x6, _, wx.heap.size, l4, l6, rfl, hbel.trans (hb4.mono hbel.size), (fun h => f0 (h.resolve_right (by decide))), (fun h => f1 (h.resolve_right (by decide))), (fun h => f2 (h.resolve_right (by decide))), (fun h => f3 (h.resolve_right (by decide))), (fun h => f5 (h.resolve_right (by decide))), (fun h => by obtain ⟨h1, h2, h3⟩ := u4 (h.resolve_right (by decide)); exact ⟨h1, (h2.mono fun k hk hl => ⟨hk.1, fun _ e => by omega⟩).below hb4, h3⟩), (fun h => by obtain ⟨h1, h2, h3⟩ := u6 (h.resolve_right (by decide)); exact ⟨h1, (h2.mono fun k hk hl => ⟨hk.1, fun _ e => by omega⟩).below hb4, h3⟩), (fun _ => ⟨rfl, hsz, by simp⟩), (fun _ _ => Box.new _ _ _), (fun h => absurd (h.resolve_right (by decide)) hnst), (fun h => absurd (h.resolve_right (by decide)) hnst)⟩
            · obtain rfl := Option.some.inj ho
              have d7 : D 7 := hdep { on := 7, ground := Ground.data } (by simp) rfl
              have d6 : D 6 := hdep { on := 6, ground := Ground.data } (by simp) rfl
              have d0 : D 0 := hdep { on := 0, ground := Ground.phase } (by simp) rfl
              have d1 : D 1 := hdep { on := 1, ground := Ground.phase } (by simp) rfl
              have d2 : D 2 := hdep { on := 2, ground := Ground.phase } (by simp) rfl
              have d3 : D 3 := hdep { on := 3, ground := Ground.phase } (by simp) rfl
              have d4 : D 4 := hdep { on := 4, ground := Ground.phase } (by simp) rfl
              have d5 : D 5 := hdep { on := 5, ground := Ground.phase } (by simp) rfl
              obtain ⟨rfl, q7, r7⟩ := p7 d7
              obtain ⟨rfl, s6, t6⟩ := u6 d6
              obtain rfl := f0 d0
              obtain rfl := f1 d1
              obtain rfl := f2 d2
              obtain rfl := f3 d3
              obtain ⟨rfl, s4, t4⟩ := u4 d4
              obtain rfl := f5 d5
              refine wpOp_e rfl rfl (fun K1 hK1 => ?_)
              have hzb := z7 d7 hnd
              have c0 := hzb.cell 0
              have c1 := hzb.cell 1
              have cf0 := hzb.frozen 0
              have cf1 := hzb.frozen 1
              have cl := hzb.lt
              simp at c0 c1
              have hbt : But (fun k => k = bz) wx ((wx.setCell ⟨bz, 0, none⟩ (.slice l6.p l6.n l6.c)).setCell ⟨bz, 1, none⟩ (.func (.func 60) #[] #[])) := (((But.one wx bz).setAt 0 (.slice l6.p l6.n l6.c)).setAt 1 (.func (.func 60) #[] #[]))
              have hnew : Box ((wx.setCell ⟨bz, 0, none⟩ (.slice l6.p l6.n l6.c)).setCell ⟨bz, 1, none⟩ (.func (.func 60) #[] #[])) bz #[.slice l6.p l6.n l6.c, .func (.func 60) #[] #[]] 70 := ((hzb.set 0 (.slice l6.p l6.n l6.c)).set 1 (.func (.func 60) #[] #[]))
              have hgrow := hbt.size
              have hbel2 : Below w8.heap.size w8 ((wx.setCell ⟨bz, 0, none⟩ (.slice l6.p l6.n l6.c)).setCell ⟨bz, 1, none⟩ (.func (.func 60) #[] #[])) := hbel.trans (hbt.below hsz fun j hj e => by omega)
              clear hzb
              go_simp
              refine hK1 _ _ ⟨_, _, _, _, _, _, _, _, bz, l4, l6, rfl, hbel2, (fun h => f0 (h.resolve_right (by decide))), (fun h => f1 (h.resolve_right (by decide))), (fun h => f2 (h.resolve_right (by decide))), (fun h => f3 (h.resolve_right (by decide))), (fun h => f5 (h.resolve_right (by decide))), (fun h => by obtain ⟨h1, h2, h3⟩ := u4 (h.resolve_right (by decide)); exact ⟨h1, (h2.but hbt (fun k hk _ e => hk.2 d7 e)).mono fun k hk _ => ⟨hk.1, fun g => hk.2 (g.resolve_right (by decide))⟩, h3⟩), (fun h => by obtain ⟨h1, h2, h3⟩ := u6 (h.resolve_right (by decide)); exact ⟨h1, (h2.but hbt (fun k hk _ e => hk.2 d7 e)).mono fun k hk _ => ⟨hk.1, fun g => hk.2 (g.resolve_right (by decide))⟩, h3⟩), (fun h => by obtain ⟨h1, h2, h3⟩ := p7 (h.resolve_right (by decide)); exact ⟨h1, h2, Nat.lt_of_lt_of_le h3 hgrow⟩), (fun _ h => absurd (.inr rfl) h), (fun _ => ⟨.inl d7, hnew⟩), (fun _ j hj => .inl (by rcases (by omega : j = 0 ∨ j = 1 ∨ j = 2 ∨ j = 3 ∨ j = 4 ∨ j = 5 ∨ j = 6 ∨ j = 7) with rfl | rfl | rfl | rfl | rfl | rfl | rfl | rfl <;> assumption))⟩
          case fin =>
            rintro D a wx ⟨x0, x1, x2, x3, x4, x5, x6, x7, bz, l4, l6, rfl, hbel, f0, f1, f2, f3, f5, u4, u6, p7, z7, y7, o8⟩ hall
            have d0 := hall 0 (by decide)
            have d1 := hall 1 (by decide)
            have d2 := hall 2 (by decide)
            have d3 := hall 3 (by decide)
            have d4 := hall 4 (by decide)
            have d5 := hall 5 (by decide)
            have d6 := hall 6 (by decide)
            have d7 := hall 7 (by decide)
            have d8 := hall 8 (by decide)
            obtain rfl := f0 d0
            obtain rfl := f1 d1
            obtain rfl := f2 d2
            obtain rfl := f3 d3
            obtain rfl := f5 d5
            obtain ⟨rfl, s4, t4⟩ := u4 d4
            obtain ⟨rfl, s6, t6⟩ := u6 d6
            obtain ⟨rfl, q7, r7⟩ := p7 d7
            go_wp2_with fail
            go_meet
            exact ⟨bz, l6, rfl, (y7 d8).2, q7, s6.mono (fun k hk _ => hk.1), t6, hbel⟩
        case rest =>
          obtain ⟨c9, ls, rfl, hb9, hg9, hin9, hto9, hbl9⟩ := hcut
          have HBX9 := hid hb9
          have HL9 := hid (And.intro hin9 hto9)
          have H9 := hid hbl9
          clear hb9 hin9 hto9 hbl9
          obtain ⟨w9, rfl⟩ : ∃ V, V = wc := ⟨wc, rfl⟩
          have HBe : Hid (Below w.heap.size w w9) := HBd.out.trans (H9.out.mono HBd.out.size)
          have hb6 := (HBX6.out.below H58.out).below H9.out
          have hb7 := (HBX7.out.below H58.out).below H9.out
          have h60 := hb6.cell 0
          have h61 := hb6.cell 1
          have h6l := hb6.lt
          have h70 := hb7.cell 0
          have h71 := hb7.cell 1
          have h7l := hb7.lt
          have hxd9 := ((HXd.out.below H4.out).below H58.out).below H9.out
          have d2 := hxd9.cell 2
          have dl9 := hxd9.lt
          simp at h60 h61 h70 h71 d2
          have HW0 : Hid (w.heap.size ≤ w9.heap.size) := HBe.out.size
          clear hb6 hb7 hxd9
          go_upto_region 8 with fail
          go_cut [10] (fun x wx => ∃ bz l6, x = .pointer (some ⟨bz, 0, none⟩) ∧ Box wx bz #[.slice l6.p l6.n l6.c, .func (.func 70) #[] #[]] 78 ∧ w9.heap.size ≤ bz ∧ LT.In elStr wx (fun k => S k ∨ w.heap.size ≤ k) l6 ∧ LT.toL l6 = jAll d e ∧ Below w9.heap.size w9 wx)
          case first =>
            refine wp_region_inv (by kernel_rfl) (fun (D : Nat → Prop) a wx => ∃ (x0 x1 x2 x3 x4 x5 x6 x7 : Value) (bz : Nat) (l4 : LT ByteArray) (l6 : LT ByteArray), a = { tmps := #[.agg #[.int .i64 d.num, .slice d.set.p d.set.n d.set.c, .slice d.gone.p d.gone.n d.gone.c], .agg #[.int .i64 e.num, .slice e.set.p e.set.n e.set.c, .slice e.gone.p e.gone.n e.gone.c], .pointer (some ⟨w.heap.size, 0, none⟩), .pointer (some ⟨w.heap.size + 1, 0, none⟩), .pointer (some ⟨c2, 0, none⟩), .int .i64 0, .int .i64 (ck : Int), .pointer (some ⟨b6, 0, none⟩), .pointer (some ⟨b7, 0, none⟩), .pointer (some ⟨c9, 0, none⟩), x7, u11, u12, u13, u14, u15, u16, u17, u18, u19, u20, u21, u22, u23, u24, u25, u26, u27, u28, u29, u30, u31, u32, u33, u34, u35, u36, u37, u38, u39, u40, x0, x1, x2, x3, x4, x5, x6, u48, u49, u50, u51, u52, u53, u54, u55, u56, u57, u58, u59, u60, u61, u62, u63, u64], defers := [] } ∧ Below w9.heap.size w9 wx ∧ (D 0 → x0 = .pointer (some ⟨w.heap.size, 2, none⟩)) ∧ (D 1 → x1 = .slice d.gone.p d.gone.n d.gone.c) ∧ (D 2 → x2 = .agg #[.slice d.gone.p d.gone.n d.gone.c, .func (.func 70) #[] #[]]) ∧ (D 3 → x3 = .agg #[.slice e.set.p e.set.n e.set.c, .func (.func 60) #[] #[]]) ∧ (D 5 → x5 = .agg #[.slice e.gone.p e.gone.n e.gone.c, .func (.func 70) #[] #[]]) ∧ (D 4 → x4 = .agg #[.slice l4.p l4.n l4.c, .func (.func 70) #[] #[]] ∧ LT.In elStr wx (fun k => (S k ∨ w.heap.size ≤ k) ∧ (D 7 → k ≠ bz)) l4 ∧ l4.toL = woL id VT.text (⟨#[]⟩ : ByteArray) zC d.gone.toL e.set.toL) ∧ (D 6 → x6 = .agg #[.slice l6.p l6.n l6.c, .func (.func 70) #[] #[]] ∧ LT.In elStr wx (fun k => (S k ∨ w.heap.size ≤ k) ∧ (D 7 → k ≠ bz)) l6 ∧ l6.toL = jAll d e) ∧ (D 7 → x7 = .pointer (some ⟨bz, 0, none⟩) ∧ w9.heap.size ≤ bz ∧ bz < wx.heap.size) ∧ (D 7 → ¬ D 8 → Box wx bz #[.slice none 0 0, .nilFunc] 78) ∧ (D 8 → D 7 ∧ Box wx bz #[.slice l6.p l6.n l6.c, .func (.func 70) #[] #[]] 78) ∧ (D 8 → ∀ j, j < 8 → D j)) ?ext (by kernel_rfl) ?h0 ?step ?fin
            case ext =>
              intro D D' a wx hD h
              have e : D = D' := funext fun j => propext (hD j)
              rw [← e]; exact h
            case h0 =>
              intro D hD
              exact ⟨u41, u42, u43, u44, u45, u46, u47, undef, 0, (ltOf none 0 (⟨#[]⟩ : ByteArray) []), (ltOf none 0 (⟨#[]⟩ : ByteArray) []), rfl, (Below.refl _ _).drew, fun h => absurd h (hD _), fun h => absurd h (hD _), fun h => absurd h (hD _), fun h => absurd h (hD _), fun h => absurd h (hD _), fun h => absurd h (hD _), fun h => absurd h (hD _), fun h => absurd h (hD _), fun h _ => absurd h (hD _), fun h => absurd h (hD _), fun h => absurd h (hD _)⟩
            case step =>
              rintro D a wx ⟨x0, x1, x2, x3, x4, x5, x6, x7, bz, l4, l6, rfl, hbel, f0, f1, f2, f3, f5, u4, u6, p7, z7, y7, o8⟩ i o ho hnd hdep
              have hi : i < 9 := (Array.getElem?_eq_some_iff.1 ho).1
              have hsz := hbel.size
              have hsz0 : w.heap.size ≤ w9.heap.size := HW0.out
              obtain rfl | rfl | rfl | rfl | rfl | rfl | rfl | rfl | rfl : i = 0 ∨ i = 1 ∨ i = 2 ∨ i = 3 ∨ i = 4 ∨ i = 5 ∨ i = 6 ∨ i = 7 ∨ i = 8 := by omega
              · obtain rfl := Option.some.inj ho
                have hnst : ¬ D 8 := fun h => hnd (o8 h 0 (by decide))
                refine wpOp_e rfl rfl (fun K1 hK1 => ?_)
                have hgrow := Nat.le_refl wx.heap.size
                go_simp
                refine hK1 _ _ ⟨_, x1, x2, x3, x4, x5, x6, x7, bz, l4, l6, rfl, hbel, (fun _ => rfl), (fun h => f1 (h.resolve_right (by decide))), (fun h => f2 (h.resolve_right (by decide))), (fun h => f3 (h.resolve_right (by decide))), (fun h => f5 (h.resolve_right (by decide))), (fun h => by obtain ⟨h1, h2, h3⟩ := u4 (h.resolve_right (by decide)); exact ⟨h1, (h2).mono fun k hk _ => ⟨hk.1, fun g => hk.2 (g.resolve_right (by decide))⟩, h3⟩), (fun h => by obtain ⟨h1, h2, h3⟩ := u6 (h.resolve_right (by decide)); exact ⟨h1, (h2).mono fun k hk _ => ⟨hk.1, fun g => hk.2 (g.resolve_right (by decide))⟩, h3⟩), (fun h => by obtain ⟨h1, h2, h3⟩ := p7 (h.resolve_right (by decide)); exact ⟨h1, h2, Nat.lt_of_lt_of_le h3 hgrow⟩), (fun h g => (z7 (h.resolve_right (by decide)) (fun g2 => g (.inl g2)))), (fun h => absurd (h.resolve_right (by decide)) hnst), (fun h => absurd (h.resolve_right (by decide)) hnst)⟩
              · obtain rfl := Option.some.inj ho
                have d0 : D 0 := hdep { on := 0, ground := Ground.data } (by simp) rfl
                obtain rfl := f0 d0
                have hnst : ¬ D 8 := fun h => hnd (o8 h 1 (by decide))
                refine wpOp_e rfl rfl (fun K1 hK1 => ?_)
                have cc0 := (World.cell?_of_block (a := ⟨w.heap.size, 2, none⟩) (hbel.block _ dl9)).trans d2
                have ccl := Nat.lt_of_lt_of_le dl9 hbel.size
                have hgrow := Nat.le_refl wx.heap.size
                go_simp
                refine hK1 _ _ ⟨_, _, x2, x3, x4, x5, x6, x7, bz, l4, l6, rfl, hbel, (fun h => f0 (h.resolve_right (by decide))), (fun _ => rfl), (fun h => f2 (h.resolve_right (by decide))), (fun h => f3 (h.resolve_right (by decide))), (fun h => f5 (h.resolve_right (by decide))), (fun h => by obtain ⟨h1, h2, h3⟩ := u4 (h.resolve_right (by decide)); exact ⟨h1, (h2).mono fun k hk _ => ⟨hk.1, fun g => hk.2 (g.resolve_right (by decide))⟩, h3⟩), (fun h => by obtain ⟨h1, h2, h3⟩ := u6 (h.resolve_right (by decide)); exact ⟨h1, (h2).mono fun k hk _ => ⟨hk.1, fun g => hk.2 (g.resolve_right (by decide))⟩, h3⟩), (fun h => by obtain ⟨h1, h2, h3⟩ := p7 (h.resolve_right (by decide)); exact ⟨h1, h2, Nat.lt_of_lt_of_le h3 hgrow⟩), (fun h g => (z7 (h.resolve_right (by decide)) (fun g2 => g (.inl g2)))), (fun h => absurd (h.resolve_right (by decide)) hnst), (fun h => absurd (h.resolve_right (by decide)) hnst)⟩
              · obtain rfl := Option.some.inj ho
                have d1 : D 1 := hdep { on := 1, ground := Ground.data } (by simp) rfl
                obtain rfl := f1 d1
                have hnst : ¬ D 8 := fun h => hnd (o8 h 2 (by decide))
                refine wpOp_e rfl rfl (fun K1 hK1 => ?_)
                refine step_callT 37 (.func 37) #[.tmp 42] _ rfl rfl Try.f37 Try.func37 (by kernel_rfl) rfl #[.slice d.gone.p d.gone.n d.gone.c] rfl _ (mk_S d.gone.p d.gone.n d.gone.c wx) (fun e w4 h4 => ?_)
                obtain ⟨rfl, hb4⟩ := h4
                have hgrow := hb4.size
                refine ⟨_, rfl, ?_⟩
                go_simp
                refine hK1 _ _ ⟨x0, _, _, x3, x4, x5, x6, x7, bz, l4, l6, rfl, hbel.trans (hb4.mono hbel.size), (fun h => f0 (h.resolve_right (by decide))), (fun h => f1 (h.resolve_right (by decide))), (fun _ => rfl), (fun h => f3 (h.resolve_right (by decide))), (fun h => f5 (h.resolve_right (by decide))), (fun h => by obtain ⟨h1, h2, h3⟩ := u4 (h.resolve_right (by decide)); exact ⟨h1, (h2.below hb4).mono fun k hk _ => ⟨hk.1, fun g => hk.2 (g.resolve_right (by decide))⟩, h3⟩), (fun h => by obtain ⟨h1, h2, h3⟩ := u6 (h.resolve_right (by decide)); exact ⟨h1, (h2.below hb4).mono fun k hk _ => ⟨hk.1, fun g => hk.2 (g.resolve_right (by decide))⟩, h3⟩), (fun h => by obtain ⟨h1, h2, h3⟩ := p7 (h.resolve_right (by decide)); exact ⟨h1, h2, Nat.lt_of_lt_of_le h3 hgrow⟩), (fun h g => (z7 (h.resolve_right (by decide)) (fun g2 => g (.inl g2))).below hb4), (fun h => absurd (h.resolve_right (by decide)) hnst), (fun h => absurd (h.resolve_right (by decide)) hnst)⟩
              · obtain rfl := Option.some.inj ho
                have hnst : ¬ D 8 := fun h => hnd (o8 h 3 (by decide))
                refine wpOp_e rfl rfl (fun K1 hK1 => ?_)
                have cc0 := (World.cell?_of_block (a := ⟨b6, 0, none⟩) (hbel.block _ h6l)).trans h60
                have cc1 := (World.cell?_of_block (a := ⟨b6, 1, none⟩) (hbel.block _ h6l)).trans h61
                have ccl := Nat.lt_of_lt_of_le h6l hbel.size
                have hgrow := Nat.le_refl wx.heap.size
                go_simp
                refine hK1 _ _ ⟨x0, x1, x2, _, x4, x5, x6, x7, bz, l4, l6, rfl, hbel, (fun h => f0 (h.resolve_right (by decide))), (fun h => f1 (h.resolve_right (by decide))), (fun h => f2 (h.resolve_right (by decide))), (fun _ => rfl), (fun h => f5 (h.resolve_right (by decide))), (fun h => by obtain ⟨h1, h2, h3⟩ := u4 (h.resolve_right (by decide)); exact ⟨h1, (h2).mono fun k hk _ => ⟨hk.1, fun g => hk.2 (g.resolve_right (by decide))⟩, h3⟩), (fun h => by obtain ⟨h1, h2, h3⟩ := u6 (h.resolve_right (by decide)); exact ⟨h1, (h2).mono fun k hk _ => ⟨hk.1, fun g => hk.2 (g.resolve_right (by decide))⟩, h3⟩), (fun h => by obtain ⟨h1, h2, h3⟩ := p7 (h.resolve_right (by decide)); exact ⟨h1, h2, Nat.lt_of_lt_of_le h3 hgrow⟩), (fun h g => (z7 (h.resolve_right (by decide)) (fun g2 => g (.inl g2)))), (fun h => absurd (h.resolve_right (by decide)) hnst), (fun h => absurd (h.resolve_right (by decide)) hnst)⟩
              · obtain rfl := Option.some.inj ho
                have d2 : D 2 := hdep { on := 2, ground := Ground.data } (by simp) rfl
                have d3 : D 3 := hdep { on := 3, ground := Ground.data } (by simp) rfl
                obtain rfl := f2 d2
                obtain rfl := f3 d3
                have hnst : ¬ D 8 := fun h => hnd (o8 h 4 (by decide))
                refine wpOp_e rfl rfl (fun K1 hK1 => ?_)
                have hBx : Below w.heap.size w wx := HBe.out.trans (hbel.mono HBe.out.size)
                have hcall := woW_SC wx d.gone e.set (fun k => ((S k ∨ w.heap.size ≤ k) ∧ (D 7 → k ≠ bz)) ∧ k < wx.heap.size) (((HD.out.gone).below hBx).mono (fun k hk hl => ⟨⟨.inl hk, fun g e => by obtain ⟨_, h2, _⟩ := p7 g; have := HS.out k hk; omega⟩, hl⟩)) (((HE.out.set).below hBx).mono (fun k hk hl => ⟨⟨.inl hk, fun g e => by obtain ⟨_, h2, _⟩ := p7 g; have := HS.out k hk; omega⟩, hl⟩)) (fun k hk => hk.2) (by omega)
                refine step_callT 38 (.func 38) #[.tmp 43, .tmp 44] _ rfl rfl Try.f38 Try.func38 (by kernel_rfl) rfl #[.agg #[.slice d.gone.p d.gone.n d.gone.c, .func (.func 70) #[] #[]], .agg #[.slice e.set.p e.set.n e.set.c, .func (.func 60) #[] #[]]] rfl _ hcall (fun e w4 h4 => ?_)
                obtain ⟨l5, rfl, hin4, hto5, hb4⟩ := h4
                have hgrow := hb4.size
                have hin5 : LT.In elStr w4 (fun k => (S k ∨ w.heap.size ≤ k) ∧ ((D 7 ∨ 7 = 4) → k ≠ bz)) l5 := hin4.mono fun k hk _ => by
                  rcases hk with hk | hk
                  · exact ⟨hk.1.1, fun g => hk.1.2 (g.resolve_right (by decide))⟩
                  · exact ⟨.inr (by omega), fun g e => by obtain ⟨_, _, h3⟩ := p7 (g.resolve_right (by decide)); omega⟩
                refine ⟨_, rfl, ?_⟩
                go_simp
                refine hK1 _ _ ⟨x0, x1, _, _, _, x5, x6, x7, bz, l5, l6, rfl, hbel.trans (hb4.mono hbel.size), (fun h => f0 (h.resolve_right (by decide))), (fun h => f1 (h.resolve_right (by decide))), (fun h => f2 (h.resolve_right (by decide))), (fun h => f3 (h.resolve_right (by decide))), (fun h => f5 (h.resolve_right (by decide))), (fun _ => ⟨rfl, hin5, hto5⟩), (fun h => by obtain ⟨h1, h2, h3⟩ := u6 (h.resolve_right (by decide)); exact ⟨h1, (h2.below hb4).mono fun k hk _ => ⟨hk.1, fun g => hk.2 (g.resolve_right (by decide))⟩, h3⟩), (fun h => by obtain ⟨h1, h2, h3⟩ := p7 (h.resolve_right (by decide)); exact ⟨h1, h2, Nat.lt_of_lt_of_le h3 hgrow⟩), (fun h g => (z7 (h.resolve_right (by decide)) (fun g2 => g (.inl g2))).below hb4), (fun h => absurd (h.resolve_right (by decide)) hnst), (fun h => absurd (h.resolve_right (by decide)) hnst)⟩
              · obtain rfl := Option.some.inj ho
                have hnst : ¬ D 8 := fun h => hnd (o8 h 5 (by decide))
                refine wpOp_e rfl rfl (fun K1 hK1 => ?_)
                have cc0 := (World.cell?_of_block (a := ⟨b7, 0, none⟩) (hbel.block _ h7l)).trans h70
                have cc1 := (World.cell?_of_block (a := ⟨b7, 1, none⟩) (hbel.block _ h7l)).trans h71
                have ccl := Nat.lt_of_lt_of_le h7l hbel.size
                have hgrow := Nat.le_refl wx.heap.size
                go_simp
                refine hK1 _ _ ⟨x0, x1, x2, x3, x4, _, x6, x7, bz, l4, l6, rfl, hbel, (fun h => f0 (h.resolve_right (by decide))), (fun h => f1 (h.resolve_right (by decide))), (fun h => f2 (h.resolve_right (by decide))), (fun h => f3 (h.resolve_right (by decide))), (fun _ => rfl), (fun h => by obtain ⟨h1, h2, h3⟩ := u4 (h.resolve_right (by decide)); exact ⟨h1, (h2).mono fun k hk _ => ⟨hk.1, fun g => hk.2 (g.resolve_right (by decide))⟩, h3⟩), (fun h => by obtain ⟨h1, h2, h3⟩ := u6 (h.resolve_right (by decide)); exact ⟨h1, (h2).mono fun k hk _ => ⟨hk.1, fun g => hk.2 (g.resolve_right (by decide))⟩, h3⟩), (fun h => by obtain ⟨h1, h2, h3⟩ := p7 (h.resolve_right (by decide)); exact ⟨h1, h2, Nat.lt_of_lt_of_le h3 hgrow⟩), (fun h g => (z7 (h.resolve_right (by decide)) (fun g2 => g (.inl g2)))), (fun h => absurd (h.resolve_right (by decide)) hnst), (fun h => absurd (h.resolve_right (by decide)) hnst)⟩
              · obtain rfl := Option.some.inj ho
                have d4 : D 4 := hdep { on := 4, ground := Ground.data } (by simp) rfl
                have d5 : D 5 := hdep { on := 5, ground := Ground.data } (by simp) rfl
                obtain ⟨rfl, s4, t4⟩ := u4 d4
                obtain rfl := f5 d5
                have hnst : ¬ D 8 := fun h => hnd (o8 h 6 (by decide))
                refine wpOp_e rfl rfl (fun K1 hK1 => ?_)
                have hBx : Below w.heap.size w wx := HBe.out.trans (hbel.mono HBe.out.size)
                have hl4 : l4.n ≤ d.gone.n + e.set.n := by rw [← LT.toL_len l4, t4]; have := woL_len id VT.text (⟨#[]⟩ : ByteArray) zC d.gone.toL e.set.toL; rw [LT.toL_len, LT.toL_len] at this; exact this
                have hcall := overW_S wx l4 e.gone (fun k => ((S k ∨ w.heap.size ≤ k) ∧ (D 7 → k ≠ bz)) ∧ k < wx.heap.size) (s4.mono (fun k hk hl => ⟨hk, hl⟩)) (((HE.out.gone).below hBx).mono (fun k hk hl => ⟨⟨.inl hk, fun g e => by obtain ⟨_, h2, _⟩ := p7 g; have := HS.out k hk; omega⟩, hl⟩)) (fun k hk => hk.2) (by omega)
                refine step_callT 48 (.func 48) #[.tmp 45, .tmp 46] _ rfl rfl Try.f48 Try.func48 (by kernel_rfl) rfl #[.agg #[.slice l4.p l4.n l4.c, .func (.func 70) #[] #[]], .agg #[.slice e.gone.p e.gone.n e.gone.c, .func (.func 70) #[] #[]]] rfl _ hcall (fun e w4 h4 => ?_)
                obtain ⟨l5, rfl, hin4, hto5, hb4⟩ := h4
                rw [t4] at hto5
                have hgrow := hb4.size
                have hin5 : LT.In elStr w4 (fun k => (S k ∨ w.heap.size ≤ k) ∧ ((D 7 ∨ 7 = 6) → k ≠ bz)) l5 := hin4.mono fun k hk _ => by
                  rcases hk with hk | hk
                  · exact ⟨hk.1.1, fun g => hk.1.2 (g.resolve_right (by decide))⟩
                  · exact ⟨.inr (by omega), fun g e => by obtain ⟨_, _, h3⟩ := p7 (g.resolve_right (by decide)); omega⟩
                refine ⟨_, rfl, ?_⟩
                go_simp
                refine hK1 _ _ ⟨x0, x1, x2, x3, _, _, _, x7, bz, l4, l5, rfl, hbel.trans (hb4.mono hbel.size), (fun h => f0 (h.resolve_right (by decide))), (fun h => f1 (h.resolve_right (by decide))), (fun h => f2 (h.resolve_right (by decide))), (fun h => f3 (h.resolve_right (by decide))), (fun h => f5 (h.resolve_right (by decide))), (fun h => by obtain ⟨h1, h2, h3⟩ := u4 (h.resolve_right (by decide)); exact ⟨h1, (h2.below hb4).mono fun k hk _ => ⟨hk.1, fun g => hk.2 (g.resolve_right (by decide))⟩, h3⟩), (fun _ => ⟨rfl, hin5, hto5⟩), (fun h => by obtain ⟨h1, h2, h3⟩ := p7 (h.resolve_right (by decide)); exact ⟨h1, h2, Nat.lt_of_lt_of_le h3 hgrow⟩), (fun h g => (z7 (h.resolve_right (by decide)) (fun g2 => g (.inl g2))).below hb4), (fun h => absurd (h.resolve_right (by decide)) hnst), (fun h => absurd (h.resolve_right (by decide)) hnst)⟩
              · obtain rfl := Option.some.inj ho
                have hnst : ¬ D 8 := fun h => hnd (o8 h 7 (by decide))
                refine wpOp_e rfl rfl (fun K1 hK1 => ?_)
                have hb4 : Below wx.heap.size wx (wx.alloc (.cells #[.slice none 0 0, .nilFunc] 78)) := (Below.refl _ _).alloc (Nat.le_refl _) _
                have hgrow := hb4.size
                go_simp
                refine hK1 _ _ ⟨x0, x1, x2, x3, x4, x5, x6, _, wx.heap.size, l4, l6, rfl, hbel.trans (hb4.mono hbel.size), (fun h => f0 (h.resolve_right (by decide))), (fun h => f1 (h.resolve_right (by decide))), (fun h => f2 (h.resolve_right (by decide))), (fun h => f3 (h.resolve_right (by decide))), (fun h => f5 (h.resolve_right (by decide))), (fun h => by obtain ⟨h1, h2, h3⟩ := u4 (h.resolve_right (by decide)); exact ⟨h1, (h2.mono fun k hk hl => ⟨hk.1, fun _ e => by omega⟩).below hb4, h3⟩), (fun h => by obtain ⟨h1, h2, h3⟩ := u6 (h.resolve_right (by decide)); exact ⟨h1, (h2.mono fun k hk hl => ⟨hk.1, fun _ e => by omega⟩).below hb4, h3⟩), (fun _ => ⟨rfl, hsz, by simp⟩), (fun _ _ => Box.new _ _ _), (fun h => absurd (h.resolve_right (by decide)) hnst), (fun h => absurd (h.resolve_right (by decide)) hnst)⟩
              · obtain rfl := Option.some.inj ho
                have d7 : D 7 := hdep { on := 7, ground := Ground.data } (by simp) rfl
                have d6 : D 6 := hdep { on := 6, ground := Ground.data } (by simp) rfl
                have d0 : D 0 := hdep { on := 0, ground := Ground.phase } (by simp) rfl
                have d1 : D 1 := hdep { on := 1, ground := Ground.phase } (by simp) rfl
                have d2 : D 2 := hdep { on := 2, ground := Ground.phase } (by simp) rfl
                have d3 : D 3 := hdep { on := 3, ground := Ground.phase } (by simp) rfl
                have d4 : D 4 := hdep { on := 4, ground := Ground.phase } (by simp) rfl
                have d5 : D 5 := hdep { on := 5, ground := Ground.phase } (by simp) rfl
                obtain ⟨rfl, q7, r7⟩ := p7 d7
                obtain ⟨rfl, s6, t6⟩ := u6 d6
                obtain rfl := f0 d0
                obtain rfl := f1 d1
                obtain rfl := f2 d2
                obtain rfl := f3 d3
                obtain ⟨rfl, s4, t4⟩ := u4 d4
                obtain rfl := f5 d5
                refine wpOp_e rfl rfl (fun K1 hK1 => ?_)
                have hzb := z7 d7 hnd
                have c0 := hzb.cell 0
                have c1 := hzb.cell 1
                have cf0 := hzb.frozen 0
                have cf1 := hzb.frozen 1
                have cl := hzb.lt
                simp at c0 c1
                have hbt : But (fun k => k = bz) wx ((wx.setCell ⟨bz, 0, none⟩ (.slice l6.p l6.n l6.c)).setCell ⟨bz, 1, none⟩ (.func (.func 70) #[] #[])) := (((But.one wx bz).setAt 0 (.slice l6.p l6.n l6.c)).setAt 1 (.func (.func 70) #[] #[]))
                have hnew : Box ((wx.setCell ⟨bz, 0, none⟩ (.slice l6.p l6.n l6.c)).setCell ⟨bz, 1, none⟩ (.func (.func 70) #[] #[])) bz #[.slice l6.p l6.n l6.c, .func (.func 70) #[] #[]] 78 := ((hzb.set 0 (.slice l6.p l6.n l6.c)).set 1 (.func (.func 70) #[] #[]))
                have hgrow := hbt.size
                have hbel2 : Below w9.heap.size w9 ((wx.setCell ⟨bz, 0, none⟩ (.slice l6.p l6.n l6.c)).setCell ⟨bz, 1, none⟩ (.func (.func 70) #[] #[])) := hbel.trans (hbt.below hsz fun j hj e => by omega)
                clear hzb
                go_simp
                refine hK1 _ _ ⟨_, _, _, _, _, _, _, _, bz, l4, l6, rfl, hbel2, (fun h => f0 (h.resolve_right (by decide))), (fun h => f1 (h.resolve_right (by decide))), (fun h => f2 (h.resolve_right (by decide))), (fun h => f3 (h.resolve_right (by decide))), (fun h => f5 (h.resolve_right (by decide))), (fun h => by obtain ⟨h1, h2, h3⟩ := u4 (h.resolve_right (by decide)); exact ⟨h1, (h2.but hbt (fun k hk _ e => hk.2 d7 e)).mono fun k hk _ => ⟨hk.1, fun g => hk.2 (g.resolve_right (by decide))⟩, h3⟩), (fun h => by obtain ⟨h1, h2, h3⟩ := u6 (h.resolve_right (by decide)); exact ⟨h1, (h2.but hbt (fun k hk _ e => hk.2 d7 e)).mono fun k hk _ => ⟨hk.1, fun g => hk.2 (g.resolve_right (by decide))⟩, h3⟩), (fun h => by obtain ⟨h1, h2, h3⟩ := p7 (h.resolve_right (by decide)); exact ⟨h1, h2, Nat.lt_of_lt_of_le h3 hgrow⟩), (fun _ h => absurd (.inr rfl) h), (fun _ => ⟨.inl d7, hnew⟩), (fun _ j hj => .inl (by rcases (by omega : j = 0 ∨ j = 1 ∨ j = 2 ∨ j = 3 ∨ j = 4 ∨ j = 5 ∨ j = 6 ∨ j = 7) with rfl | rfl | rfl | rfl | rfl | rfl | rfl | rfl <;> assumption))⟩
            case fin =>
              rintro D a wx ⟨x0, x1, x2, x3, x4, x5, x6, x7, bz, l4, l6, rfl, hbel, f0, f1, f2, f3, f5, u4, u6, p7, z7, y7, o8⟩ hall
              have d0 := hall 0 (by decide)
              have d1 := hall 1 (by decide)
              have d2 := hall 2 (by decide)
              have d3 := hall 3 (by decide)
              have d4 := hall 4 (by decide)
              have d5 := hall 5 (by decide)
              have d6 := hall 6 (by decide)
              have d7 := hall 7 (by decide)
              have d8 := hall 8 (by decide)
              obtain rfl := f0 d0
              obtain rfl := f1 d1
              obtain rfl := f2 d2
              obtain rfl := f3 d3
              obtain rfl := f5 d5
              obtain ⟨rfl, s4, t4⟩ := u4 d4
              obtain ⟨rfl, s6, t6⟩ := u6 d6
              obtain ⟨rfl, q7, r7⟩ := p7 d7
              go_wp2_with fail
              go_meet
              exact ⟨bz, l6, rfl, (y7 d8).2, q7, s6.mono (fun k hk _ => hk.1), t6, hbel⟩
          case rest =>
            obtain ⟨c10, lk, rfl, hb10, hg10, hin10, hto10, hbl10⟩ := hcut
            obtain ⟨w10, rfl⟩ : ∃ V, V = wc := ⟨wc, rfl⟩
            have HBf : Hid (Below w.heap.size w w10) := HBe.out.trans (hbl10.mono HBe.out.size)
            have hb9 := HBX9.out.below hbl10
            have HBX9b := hid hb9
            have HBX10 := hid hb10
            have HL10 := hid (And.intro hin10 hto10)
            have H10 := hid hbl10
            have s0 := hb9.cell 0
            have s1 := hb9.cell 1
            have sl := hb9.lt
            simp at s0 s1
            have hns : ls.n = (jSet d e).length := by rw [← LT.toL_len, HL9.out.2]
            have hnk : lk.n = (jAll d e).length := by rw [← LT.toL_len, hto10]
            have HNs := hid hns
            have HNk := hid hnk
            have HZ10 : Hid (Box w10 c2 #[.int .i64 0, .slice none 0 0, .slice none 0 0] 30) := ((((HZ.out.below H4.out).below H58.out).below H9.out).below hbl10)
            have HErr : Hid (er = if 64 < ls.n ∨ 64 < lk.n then 111 else 0) := by
              show _ = _
              rw [HEr.out, joinE]
              have h := HCk.out
              rw [HC0.out] at h
              have hl2 : ¬ (jGone d e).length < e.gone.n := by rw [← HLn.out]; exact hlt
              by_cases h1 : chkD d ≠ 0
              · rw [if_pos h1] at h; exact absurd h.symm h1
              · rw [if_neg h1] at h
                rw [if_neg h1, if_neg (by rw [← h]; simp), if_neg hl2, hns, hnk]
            clear hb9 hb10 hin10 hto10 hbl10 hns hnk h60 h61 h70 h71 d2 h6l h7l dl9
            go_wp2_with fail
            refine (count_C ls.p ls.n ls.c w10).mono ?_
            rintro r w11 ⟨rfl, hb11⟩
            have HB11 := hid hb11
            have HBg : Hid (Below w.heap.size w w11) := HBf.out.trans (hb11.mono HBf.out.size)
            clear hb11 s0 s1 sl
            by_cases h64 : 64 < ls.n
            · have h64' : (64 : Int) < (ls.n : Int) := by omega
              have HR2 : Hid (er = 111) := by show _ = _; rw [HErr.out, if_pos (.inl h64)]
              have hz := HZ10.out.below HB11.out
              have HZq := hid hz
              have z0 := hz.cell 0
              have z1 := hz.cell 1
              have z2 := hz.cell 2
              have zf0 := hz.frozen 0
              have zf1 := hz.frozen 1
              have zf2 := hz.frozen 2
              have zl := hz.lt
              simp at z0 z1 z2
              clear hz
              go_wp2
              have hbt : But (fun k => k = c2) w11 (((w11.setCell ⟨c2, 0, none⟩ (.int .i64 0)).setCell ⟨c2, 1, none⟩ (.slice none 0 0)).setCell ⟨c2, 2, none⟩ (.slice none 0 0)) := (((But.one w11 c2).setAt 0 _).setAt 1 _).setAt 2 _
              have hF : Box (((w11.setCell ⟨c2, 0, none⟩ (.int .i64 0)).setCell ⟨c2, 1, none⟩ (.slice none 0 0)).setCell ⟨c2, 2, none⟩ (.slice none 0 0)) c2 #[.int .i64 0, .slice none 0 0, .slice none 0 0] 30 := ((HZq.out.set 0 _).set 1 _).set 2 _
              have f0 := hF.cell 0
              have f1 := hF.cell 1
              have f2 := hF.cell 2
              simp only [List.getElem?_toArray, List.getElem?_cons_zero, List.getElem?_cons_succ] at f0 f1 f2
              exact bodyPost_ret (v := .tuple #[.agg #[.int .i64 0, .slice none 0 0, .slice none 0 0], .int .i64 111]) (by simp [results, Try.results19, go_sem, f0, f1, f2]) rfl ⟨HBg.out.trans (hbt.below HBg.out.size fun k hk e => by have := HC2.out; omega), fun _ => by rw [HR2.out]; rfl, fun h => by have := HR2.out.symm.trans h; omega⟩
            · have h64' : ¬ (64 : Int) < (ls.n : Int) := by omega
              have hb10 := HBX10.out.below HB11.out
              have k0 := hb10.cell 0
              have k1 := hb10.cell 1
              have kl := hb10.lt
              simp at k0 k1
              clear hb10
              go_wp2_with fail
              refine (count_S lk.p lk.n lk.c w11).mono ?_
              rintro r w12 ⟨rfl, hb12⟩
              have HB12 : Hid (Below w10.heap.size w10 w12) := HB11.out.trans (hb12.mono HB11.out.size)
              have HBh : Hid (Below w.heap.size w w12) := HBg.out.trans (hb12.mono HBg.out.size)
              clear hb12 k0 k1 kl
              by_cases h65 : 64 < lk.n
              · have h65' : (64 : Int) < (lk.n : Int) := by omega
                have HR2 : Hid (er = 111) := by show _ = _; rw [HErr.out, if_pos (.inr h65)]
                have hz := HZ10.out.below HB12.out
                have HZq := hid hz
                have z0 := hz.cell 0
                have z1 := hz.cell 1
                have z2 := hz.cell 2
                have zf0 := hz.frozen 0
                have zf1 := hz.frozen 1
                have zf2 := hz.frozen 2
                have zl := hz.lt
                simp at z0 z1 z2
                clear hz
                go_wp2
                have hbt : But (fun k => k = c2) w12 (((w12.setCell ⟨c2, 0, none⟩ (.int .i64 0)).setCell ⟨c2, 1, none⟩ (.slice none 0 0)).setCell ⟨c2, 2, none⟩ (.slice none 0 0)) := (((But.one w12 c2).setAt 0 _).setAt 1 _).setAt 2 _
                have hF : Box (((w12.setCell ⟨c2, 0, none⟩ (.int .i64 0)).setCell ⟨c2, 1, none⟩ (.slice none 0 0)).setCell ⟨c2, 2, none⟩ (.slice none 0 0)) c2 #[.int .i64 0, .slice none 0 0, .slice none 0 0] 30 := ((HZq.out.set 0 _).set 1 _).set 2 _
                have f0 := hF.cell 0
                have f1 := hF.cell 1
                have f2 := hF.cell 2
                simp only [List.getElem?_toArray, List.getElem?_cons_zero, List.getElem?_cons_succ] at f0 f1 f2
                exact bodyPost_ret (v := .tuple #[.agg #[.int .i64 0, .slice none 0 0, .slice none 0 0], .int .i64 111]) (by simp [results, Try.results19, go_sem, f0, f1, f2]) rfl ⟨HBh.out.trans (hbt.below HBh.out.size fun k hk e => by have := HC2.out; omega), fun _ => by rw [HR2.out]; rfl, fun h => by have := HR2.out.symm.trans h; omega⟩
              · have h65' : ¬ (64 : Int) < (lk.n : Int) := by omega
                have HR2 : Hid (er = 0) := by show _ = _; rw [HErr.out, if_neg (by omega)]
                have hb9 := HBX9b.out.below HB12.out
                have hb10 := HBX10.out.below HB12.out
                have hxe := (((HXe.out.below H4.out).below H58.out).below H9.out).below (H10.out.trans (HB12.out.mono H10.out.size))
                have s0 := hb9.cell 0
                have sl := hb9.lt
                have k0 := hb10.cell 0
                have kl := hb10.lt
                have e0 := hxe.cell 0
                have el := hxe.lt
                simp at s0 k0 e0
                have HFr := hid (freshD ⟨e.num, ls, lk⟩ w12 (fun k => S k ∨ w.heap.size ≤ k) ⟨(HL9.out.1.below H10.out).below HB12.out, HL10.out.1.below HB12.out, HE.out.n0, HE.out.n1⟩ (by show ls.n ≤ 10000; omega) (by show lk.n ≤ 10000; omega) (fun j hj => by
                  have hm : ls.item j ∈ jSet d e := by rw [← HL9.out.2]; exact List.mem_of_getElem? (LT.toL_get ls hj)
                  rcases ovL_mem hm with h | h
                  · obtain ⟨q, hq, e2⟩ := LT.mem_toL (woL_mem h)
                    show (ls.item j).total ≤ 10000
                    rw [← e2]; exact HT.out.1 q hq
                  · obtain ⟨q, hq, e2⟩ := LT.mem_toL h
                    show (ls.item j).total ≤ 10000
                    rw [← e2]; exact HT.out.2 q hq))
                clear hb9 hb10 hxe
                go_wp2_with fail
                refine HFr.out.mono ?_
                rintro r w13 ⟨u, rfl, hal, hin, hb13⟩
                have HU := hid (And.intro hal hin)
                have HB13 := hid hb13
                have hz := (HZ10.out.below HB12.out).below hb13
                have HZq := hid hz
                have z0 := hz.cell 0
                have z1 := hz.cell 1
                have z2 := hz.cell 2
                have zf0 := hz.frozen 0
                have zf1 := hz.frozen 1
                have zf2 := hz.frozen 2
                have zl := hz.lt
                simp at z0 z1 z2
                clear hal hin hb13 hz s0 sl k0 kl e0 el HFr
                go_wp2
                have hbt : But (fun k => k = c2) w13 (((w13.setCell ⟨c2, 0, none⟩ (.int .i64 u.num)).setCell ⟨c2, 1, none⟩ (.slice u.set.p u.set.n u.set.c)).setCell ⟨c2, 2, none⟩ (.slice u.gone.p u.gone.n u.gone.c)) := (((But.one w13 c2).setAt 0 _).setAt 1 _).setAt 2 _
                have hF : Box (((w13.setCell ⟨c2, 0, none⟩ (.int .i64 u.num)).setCell ⟨c2, 1, none⟩ (.slice u.set.p u.set.n u.set.c)).setCell ⟨c2, 2, none⟩ (.slice u.gone.p u.gone.n u.gone.c)) c2 #[.int .i64 u.num, .slice u.set.p u.set.n u.set.c, .slice u.gone.p u.gone.n u.gone.c] 30 := ((HZq.out.set 0 _).set 1 _).set 2 _
                have f0 := hF.cell 0
                have f1 := hF.cell 1
                have f2 := hF.cell 2
                simp only [List.getElem?_toArray, List.getElem?_cons_zero, List.getElem?_cons_succ] at f0 f1 f2
                have hBz : Below w.heap.size w w13 := HBh.out.trans (HB13.out.mono HBh.out.size)
                have hsz12 := HBh.out.size
                have hc2l : c2 < w12.heap.size := (HZ10.out.below HB12.out).lt
                refine bodyPost_ret (v := .tuple #[.agg #[.int .i64 u.num, .slice u.set.p u.set.n u.set.c, .slice u.gone.p u.gone.n u.gone.c], .int .i64 0]) (by simp [results, Try.results19, go_sem, f0, f1, f2]) rfl ⟨hBz.trans (hbt.below hBz.size fun k hk e => by have := HC2.out; omega), fun h => absurd HR2.out h, fun _ => ⟨u, rfl, ?_, ?_⟩⟩
                · obtain ⟨a1, a2, a3, a4, a5⟩ := HU.out.1
                  have o1 := LT.of_toL HL9.out.2 zC
                  have o2 := LT.of_toL HL10.out.2 (⟨#[]⟩ : ByteArray)
                  exact ⟨a1, a2.trans o1.1, fun j hj => by
                    have h := a3 j (by rw [o1.1]; exact hj)
                    show VT.Alike ((jSet d e).getD j zC) _
                    rw [← o1.2 j (by rw [o1.1]; exact hj)]; exact h, a4.trans o2.1, fun j hj => by
                    have h := a5 j (by rw [o2.1]; exact hj)
                    show _ = (jAll d e).getD j _
                    rw [← o2.2 j (by rw [o2.1]; exact hj)]; exact h⟩
                · exact (HU.out.2.kept hbt.size (fun k hk hl => hbt.block k hl (by omega))).mono fun k hk _ => by omega
  · have hc1 : ((ck : Int) != 0) = true := by simp; omega
    have HR2 : Hid (er = ck) := by
      show _ = _
      rw [HEr.out, joinE, HCk.out]
      have h := HCk.out
      by_cases h1 : chkD d ≠ 0
      · rw [if_pos h1, if_pos h1]
      · rw [if_neg h1] at h
        rw [if_neg h1, if_neg h1, if_pos (by rw [← h]; exact hc)]
    have HNe := hid hc
    have z0 := hz.cell 0
    have z1 := hz.cell 1
    have z2 := hz.cell 2
    have g0 := hz.frozen 0
    have g1 := hz.frozen 1
    have g2 := hz.frozen 2
    have zl := hz.lt
    simp at z0 z1 z2
    clear hc hz
    go_wp2
    have hbt : But (fun k => k = c2) w1 (((w1.setCell ⟨c2, 0, none⟩ (.int .i64 0)).setCell ⟨c2, 1, none⟩ (.slice none 0 0)).setCell ⟨c2, 2, none⟩ (.slice none 0 0)) := (((But.one w1 c2).setAt 0 _).setAt 1 _).setAt 2 _
    have hF : Box (((w1.setCell ⟨c2, 0, none⟩ (.int .i64 0)).setCell ⟨c2, 1, none⟩ (.slice none 0 0)).setCell ⟨c2, 2, none⟩ (.slice none 0 0)) c2 #[.int .i64 0, .slice none 0 0, .slice none 0 0] 30 := ((HZ.out.set 0 _).set 1 _).set 2 _
    have f0 := hF.cell 0
    have f1 := hF.cell 1
    have f2 := hF.cell 2
    simp only [List.getElem?_toArray, List.getElem?_cons_zero, List.getElem?_cons_succ] at f0 f1 f2
    refine bodyPost_ret (v := .tuple #[.agg #[.int .i64 0, .slice none 0 0, .slice none 0 0], .int .i64 (ck : Int)]) (by simp [results, Try.results19, go_sem, f0, f1, f2]) rfl ⟨HBa.out.trans (hbt.below HBa.out.size fun k hk e => by have := HC2.out; omega), fun _ => by rw [HR2.out], fun h => absurd (HR2.out.symm.trans h) HNe.out⟩
end Go.Proofs.Ytckopbkhpbhljaa
