import Derived.Test.YtpknlbibijheaaaDnC
namespace Go.Proofs.Ytpknlbibijheaaa
open Go.RowKit
set_option maxRecDepth 8000
theorem OwnL.congr {α : Type} {E : El α} {base : Nat} {w : World} {v : Value} {n : Nat} {g g' : Nat → α} (h : OwnL E base w v n g) (he : ∀ j, j < n → g j = g' j) : OwnL E base w v n g' := by
  have e : ((List.range n).flatMap fun j => E.cells (g j)) = ((List.range n).flatMap fun j => E.cells (g' j)) := by
    rw [List.flatMap_def, List.flatMap_def]
    congr 1
    apply List.map_congr_left
    intro j hj
    rw [he j (List.mem_range.1 hj)]
  exact ⟨by rw [← e]; exact h.own, fun j hj => by rw [← he j hj]; exact h.each j hj⟩
/-- cells in a row of the call's own -/
def CRow (base : Nat) (w : World) (v : Value) (xs : List VT) : Prop := OwnL elCell base w v xs.length (fun j => xs.getD j zC)
theorem CRow.nil (base : Nat) (w : World) : CRow base w (.slice none 0 0) [] := ⟨World.ownsRow_nil _ _ _ _, fun j h => absurd h (by show ¬ j < 0; omega)⟩
theorem CRow.push {base : Nat} {w w' : World} {v v' : Value} {xs : List VT} {u : VT} (h : CRow base w v xs) (hu : VT.In w (fun b => base ≤ b ∧ v.ownBlock ≠ some b) u)
    (hown : w'.ownsRow base 62 2 v' (xs.length + 1) (((List.range xs.length).flatMap fun j => elCell.cells (xs.getD j zC)) ++ elCell.cells u)) (hg : w.grownBy w' v.ownBlock) (hn : Near w v v') : CRow base w' v' (xs ++ [u]) := by
  have h1 := OwnL.push (E := elCell) h hu hown hg hn
  unfold CRow
  rw [List.length_append]
  refine OwnL.congr h1 fun j hj => ?_
  simp only [List.length_singleton] at hj
  by_cases hjn : j < xs.length
  · rw [if_pos hjn]; simp [hjn, List.getElem?_append_left hjn]
  · obtain rfl : j = xs.length := by omega
    rw [if_neg hjn]; simp
theorem CRow.below {base : Nat} {w w' : World} {v : Value} {xs : List VT} (h : CRow base w v xs) (hb : Below w.heap.size w w') : CRow base w' v xs := OwnL.keep h hb.size fun k _ hl => hb.block k hl
theorem CRow.in_ {base : Nat} {w : World} {v : Value} {xs : List VT} (h : CRow base w v xs) (hn : xs.length ≤ 140737488355328) : ∃ p c, v = .slice p xs.length c ∧ LT.In elCell w (fun b => base ≤ b) ⟨p, xs.length, c, fun j => xs.getD j zC⟩ := OwnL.in_ h hn
theorem getD_nl (xs : List VT) (p : Option Addr) (c : Nat) : LT.nl ⟨p, xs.length, c, fun j => xs.getD j zC⟩ = xs.map VT.norm := by
  unfold LT.nl LT.toL
  congr 1
  apply List.ext_getElem
  · simp
  · intro i h1 h2
    simp at h1
    simp [h1]
/-- while the cells are gathered: a variable of a number and a row -/
structure ApI (W3 wr : World) (O : Nat) (num : Int) (vO : Value) (xs : List VT) : Prop where
  box : Box wr O #[.int .i64 num, vO] 24
  own : CRow W3.heap.size wr vO xs
  but : But (fun b => b = O) W3 wr
  lo : O < W3.heap.size
theorem ApI.below {W3 wr w' : World} {O : Nat} {num : Int} {vO : Value} {xs : List VT} (h : ApI W3 wr O num vO xs) (hb : Below wr.heap.size wr w') : ApI W3 w' O num vO xs := ⟨h.box.below hb, h.own.below hb, h.but.trans (But.ofBelow hb), h.lo⟩
theorem ApI.mid {W3 wr w5 : World} {O : Nat} {num : Int} {vO : Value} {xs : List VT} {o : Obj} (h : ApI W3 wr O num vO xs) (hg : (wr.alloc o).grownBy w5 vO.ownBlock) : Box w5 O #[.int .i64 num, vO] 24 := by
  have hl := h.box.lt
  refine (h.box.below (below1 wr o)).kept (hg.block _ (by simp; omega) fun e => ?_)
  have := (h.own.own.lt _ e.symm).1
  have := h.lo
  omega
theorem ApI.step {W3 wr w5 : World} {O : Nat} {num : Int} {vO v5 : Value} {xs : List VT} {o : Obj} {u : VT} (h : ApI W3 wr O num vO xs) (hu : VT.In wr (fun b => W3.heap.size ≤ b ∧ vO.ownBlock ≠ some b) u)
    (hown : w5.ownsRow W3.heap.size 62 2 v5 (xs.length + 1) (((List.range xs.length).flatMap fun j => elCell.cells (xs.getD j zC)) ++ elCell.cells u)) (hg : (wr.alloc o).grownBy w5 vO.ownBlock) (hn : Near (wr.alloc o) vO v5) : ApI W3 (w5.setCell ⟨O, 1, none⟩ v5) O num v5 (xs ++ [u]) := by
  have hlo := h.lo
  have hbs := h.but.size
  have h1 : CRow W3.heap.size w5 v5 (xs ++ [u]) := (h.own.below (below1 wr o)).push (hu.below (below1 wr o)) hown hg hn
  have hb1 : But (fun q => q = O) w5 (w5.setCell ⟨O, 1, none⟩ v5) := (But.one w5 O).setAt _ _
  refine ⟨by simpa using (h.mid hg).set 1 v5, OwnL.keep h1 hb1.size fun k hk hl => hb1.block k hl (by omega), ?_, hlo⟩
  refine ((h.but.trans (But.ofBelow (below1 wr o))).grown hg fun k hk hl => ?_).trans hb1
  have := (h.own.own.lt k hk).1
  omega
theorem newsC (w : World) (x y : Value) : ∀ j' u', [x, y][j']? = some u' → (w.alloc (.cells #[x, y] 62)).cell? ((⟨w.heap.size, 0, none⟩ : Addr).add j') = some u' := fun j' u' hu => by
  rw [Go.WideShapes.add_plain, (Box.new w #[x, y] 62).cell]
  rw [show 0 + j' = j' by omega]
  simpa using hu
theorem oneC (t : ByteArray) (p : Option Addr) (n c : Nat) : ∀ u ∈ [Value.string t, .slice p n c], u.oneCell' = true := by
  intro u hu
  simp only [List.mem_cons, List.not_mem_nil, or_false] at hu
  rcases hu with rfl | rfl <;> rfl
theorem allK_mem {a b : LT VT} {c d : LT ByteArray} {k : ByteArray} : k ∈ allK a b c d ↔ keyIn a.toL k ∨ keyIn b.toL k ∨ k ∈ c.toL ∨ k ∈ d.toL := by
  unfold allK keyIn
  simp only [List.mem_append, List.mem_map]
  constructor
  · rintro (((h | h) | h) | h)
    · exact .inl h
    · exact .inr (.inl h)
    · exact .inr (.inr (.inl h))
    · exact .inr (.inr (.inr h))
  · rintro (h | h | h | h)
    · exact .inl (.inl (.inl h))
    · exact .inl (.inl (.inr h))
    · exact .inl (.inr h)
    · exact .inr h
theorem keyIn_nl2 {l : LT VT} {k : ByteArray} : keyIn l.nl k ↔ keyIn l.toL k := keyIn_norm
/-- what Apply answers, told by its error -/
theorem applyE_val {sn : Int} {s : LT VT} {d : DT} (h1 : chkState ⟨sn, s.p, s.n, s.c, s.item⟩ = 0) (h2 : chkD d = 0) : ((∃ g ∈ d.gone.toL, ¬ keyIn s.toL g) → applyE sn s d = 110) ∧ ((∀ g ∈ d.gone.toL, keyIn s.toL g) → applyE sn s d = if 64 < (jS s.nl d.gone.toL d.nS).length then 111 else 0) := by
  have hg := aGone_has (chkState_rise h1).1 (chkD_ok h2).gone
  unfold applyE
  rw [if_neg (by simpa using h1), if_neg (by simpa using h2)]
  constructor
  · rintro ⟨g, hg1, hg2⟩
    rw [if_pos]
    rcases Nat.eq_zero_or_pos (aGone s d).length with h | h
    · exact (hg2 (hg.1 h g hg1)).elim
    · exact h
  · intro h
    rw [if_neg (by have := hg.2 h; omega)]
    have e : (aSet s d).length = (jS s.nl d.gone.toL d.nS).length := few_nl s d
    rw [e]
/-- one key of Apply -/
structure ApK (s : LT VT) (d : DT) (K : List ByteArray) : Prop where
  hs : Rise VT.text s.nl
  hd : DOk d
  rK : Rise id K
  mK : ∀ k, k ∈ K ↔ keyIn s.toL k ∨ keyIn d.set.toL k ∨ k ∈ d.gone.toL
theorem ApK.rR {s : LT VT} {d : DT} {K : List ByteArray} (h : ApK s d K) : Rise VT.text (jS s.nl d.gone.toL d.nS) := jS_rise h.hs (nS_rise h.hd.set) h.hd.gone
theorem ApK.inK {s : LT VT} {d : DT} {K : List ByteArray} (h : ApK s d K) : ∀ c ∈ jS s.nl d.gone.toL d.nS, c.text ∈ K := by
  intro c hc
  rw [h.mK]
  rcases (keyIn_jS h.hs (nS_rise h.hd.set) h.hd.gone c.text).1 ⟨c, hc, rfl⟩ with h1 | ⟨h1, _⟩
  · exact .inr (.inl (keyIn_norm.1 h1))
  · exact .inl (keyIn_norm.1 h1)
set_option maxHeartbeats 16000000 in
theorem rapply_any (sn : Int) (s : LT VT) (d : DT) (w : World) (S : Nat → Prop) (hs : LT.In elCell w S s) (hs0 : -9223372036854775808 ≤ sn) (hs1 : sn ≤ 9223372036854775807) (hd : DT.In w S d) (hS : ∀ k, S k → k < w.heap.size) (zs : CSz s) (zd : DSz d) :
    Calls Try.prog 24 #[.agg #[.int .i64 sn, .slice s.p s.n s.c], .agg #[.int .i64 d.num, .slice d.set.p d.set.n d.set.c, .slice d.gone.p d.gone.n d.gone.c]] w fun e w' => ∃ (vn : Int) (v : LT VT), e = .returned (.tuple #[.agg #[.int .i64 vn, .slice v.p v.n v.c], .int .i64 (applyE sn s d : Int)]) ∧ LT.In elCell w' (fun k => w.heap.size ≤ k) v ∧ (applyE sn s d = 0 → vn = d.num ∧ Apd s d v) ∧ (applyE sn s d ≠ 0 → vn = 0 ∧ v.n = 0) ∧ Below w.heap.size w w' := by
  obtain ⟨W0, hW0⟩ : ∃ X, X = ((w.alloc (.cells #[.int .i64 sn, .slice s.p s.n s.c] 24)).alloc (.cells #[.int .i64 d.num, .slice d.set.p d.set.n d.set.c, .slice d.gone.p d.gone.n d.gone.c] 30)).alloc (.cells #[.int .i64 0, .slice none 0 0] 24) := ⟨_, rfl⟩
  have hB0 : Below w.heap.size w W0 := by rw [hW0]; exact (below2 _ _ _).alloc (by simp; omega) _
  have hs00 : W0.heap.size = w.heap.size + 3 := by rw [hW0]; simp
  have bS : Box W0 w.heap.size #[.int .i64 sn, .slice s.p s.n s.c] 24 := by rw [hW0]; exact ((Box.new w _ _).below (below1 _ _)).below (below1 _ _)
  have bD : Box W0 (w.heap.size + 1) #[.int .i64 d.num, .slice d.set.p d.set.n d.set.c, .slice d.gone.p d.gone.n d.gone.c] 30 := by
    have h1 := Box.new (w.alloc (.cells #[.int .i64 sn, .slice s.p s.n s.c] 24)) #[.int .i64 d.num, .slice d.set.p d.set.n d.set.c, .slice d.gone.p d.gone.n d.gone.c] 30
    rw [World.size_alloc] at h1
    rw [hW0]
    exact h1.below (below1 _ _)
  have bR : Box W0 (w.heap.size + 2) #[.int .i64 0, .slice none 0 0] 24 := by
    have h1 := Box.new ((w.alloc (.cells #[.int .i64 sn, .slice s.p s.n s.c] 24)).alloc (.cells #[.int .i64 d.num, .slice d.set.p d.set.n d.set.c, .slice d.gone.p d.gone.n d.gone.c] 30)) #[.int .i64 0, .slice none 0 0] 24
    rw [World.size_alloc, World.size_alloc] at h1
    rw [hW0]
    exact h1
  have hsI := hs.below hB0
  have hdI := hd.below hB0
  have HSt := hid (refCheckState_any ⟨sn, s.p, s.n, s.c, s.item⟩ W0 S (LT.toST hsI hs0 hs1))
  have HW0 := hid hW0
  have HB0 := hid hB0
  have HS00 := hid hs00
  have HbS := hid bS
  have HbD := hid bD
  have HbR := hid bR
  have HsI := hid hsI
  have HdI := hid hdI
  have HS := hid hS
  have HZs := hid zs
  have HZd := hid zd
  have HN0 := hid (And.intro hs0 hs1)
  obtain ⟨i0, Kd⟩ := kindCs
  have HKd := hid Kd
  clear Kd
  have a0 := bS.cell 0
  have a1 := bS.cell 1
  have al := bS.lt
  simp at a0 a1
  clear hW0 hB0 hs00 bS bD bR hsI hdI hs hd hS zs zd hs0 hs1
  go_enter Try.func24, Try.ntmps24
  go_upto_region 1 with fail
  rw [← HW0.out]
  go_wp2_with fail
  refine HSt.out.mono ?_
  rintro e W1 ⟨rfl, hb1⟩
  have HB1 : Hid (Below w.heap.size w W1) := HB0.out.trans (hb1.mono HB0.out.size)
  replace HbS := hid (HbS.out.below hb1)
  replace HbD := hid (HbD.out.below hb1)
  replace HbR := hid (HbR.out.below hb1)
  replace HsI := hid (HsI.out.below hb1)
  replace HdI := hid (HdI.out.below hb1)
  have HZ1 : Hid (w.heap.size + 3 ≤ W1.heap.size) := by have := HS00.out; have := hb1.size; show _ ≤ _; omega
  obtain ⟨cs, hcs⟩ : ∃ x, x = chkState ⟨sn, s.p, s.n, s.c, s.item⟩ := ⟨_, rfl⟩
  rw [← hcs]
  have HCs := hid hcs
  clear hb1 HSt hcs a0 a1 al
  by_cases h0 : cs = 0
  case neg =>
    have h0' : ((cs : Int) != 0) = true := by simp; omega
    have HR : Hid (applyE sn s d = cs) := by show _ = _; unfold applyE; rw [← HCs.out, if_pos h0]
    have r0 := HbR.out.cell 0
    have rf0 := HbR.out.frozen 0
    have r1 := HbR.out.cell 1
    have rf1 := HbR.out.frozen 1
    have rl := HbR.out.lt
    simp at r0 r1
    go_wp2
    have hbx : Box ((W1.setCell ⟨w.heap.size + 2, 0, none⟩ (.int .i64 0)).setCell ⟨w.heap.size + 2, 1, none⟩ (.slice none 0 0)) (w.heap.size + 2) #[.int .i64 0, .slice none 0 0] 24 := by simpa using (HbR.out.set 0 (.int .i64 0)).set 1 (.slice none 0 0)
    have hbt : But (fun x => x = w.heap.size + 2) W1 ((W1.setCell ⟨w.heap.size + 2, 0, none⟩ (.int .i64 0)).setCell ⟨w.heap.size + 2, 1, none⟩ (.slice none 0 0)) := ((But.one _ _).setAt 0 _).setAt 1 _
    have g0 := hbx.cell 0
    have g1 := hbx.cell 1
    simp at g0 g1
    exact bodyPost_ret (v := .tuple #[.agg #[.int .i64 0, .slice none 0 0], .int .i64 (cs : Int)]) (by simp [results, Try.results24, go_sem, g0, g1]) rfl ⟨0, ⟨none, 0, 0, fun _ => zC⟩, by rw [HR.out]; try rfl, LT.In.none_ _ _ _ none 0 _ (Nat.zero_le _) (fun _ => rfl), fun h => (by rw [HR.out] at h; exact (by omega : False).elim), fun _ => ⟨rfl, rfl⟩, HB1.out.trans (hbt.below HB1.out.size (fun q hq => by omega))⟩
  case pos =>
    subst h0
    have HOkS : Hid (chkState ⟨sn, s.p, s.n, s.c, s.item⟩ = 0) := HCs.out.symm
    clear HCs
    have b0 := HbD.out.cell 0
    have b1 := HbD.out.cell 1
    have b2 := HbD.out.cell 2
    have bl := HbD.out.lt
    simp at b0 b1 b2
    have HCk := hid (rcheck_any d W1 S HdI.out HZd.out)
    go_wp2_with fail
    refine HCk.out.mono ?_
    rintro e W2 ⟨rfl, hb2⟩
    have HB2 : Hid (Below w.heap.size w W2) := HB1.out.trans (hb2.mono HB1.out.size)
    replace HbS := hid (HbS.out.below hb2)
    replace HbD := hid (HbD.out.below hb2)
    replace HbR := hid (HbR.out.below hb2)
    replace HsI := hid (HsI.out.below hb2)
    replace HdI := hid (HdI.out.below hb2)
    have HZ2 : Hid (w.heap.size + 3 ≤ W2.heap.size) := by have := HZ1.out; have := hb2.size; show _ ≤ _; omega
    obtain ⟨cd, hcd⟩ : ∃ x, x = chkD d := ⟨_, rfl⟩
    rw [← hcd]
    have HCd := hid hcd
    clear hb2 HCk hcd HB1 b0 b1 b2 bl
    by_cases h0 : cd = 0
    case neg =>
      have h0' : ((cd : Int) != 0) = true := by simp; omega
      have HR : Hid (applyE sn s d = cd) := by show _ = _; unfold applyE; rw [if_neg (by simpa using HOkS.out), ← HCd.out, if_pos h0]
      have r0 := HbR.out.cell 0
      have rf0 := HbR.out.frozen 0
      have r1 := HbR.out.cell 1
      have rf1 := HbR.out.frozen 1
      have rl := HbR.out.lt
      simp at r0 r1
      go_wp2
      have hbx : Box ((W2.setCell ⟨w.heap.size + 2, 0, none⟩ (.int .i64 0)).setCell ⟨w.heap.size + 2, 1, none⟩ (.slice none 0 0)) (w.heap.size + 2) #[.int .i64 0, .slice none 0 0] 24 := by simpa using (HbR.out.set 0 (.int .i64 0)).set 1 (.slice none 0 0)
      have hbt : But (fun x => x = w.heap.size + 2) W2 ((W2.setCell ⟨w.heap.size + 2, 0, none⟩ (.int .i64 0)).setCell ⟨w.heap.size + 2, 1, none⟩ (.slice none 0 0)) := ((But.one _ _).setAt 0 _).setAt 1 _
      have g0 := hbx.cell 0
      have g1 := hbx.cell 1
      simp at g0 g1
      exact bodyPost_ret (v := .tuple #[.agg #[.int .i64 0, .slice none 0 0], .int .i64 (cd : Int)]) (by simp [results, Try.results24, go_sem, g0, g1]) rfl ⟨0, ⟨none, 0, 0, fun _ => zC⟩, by rw [HR.out]; try rfl, LT.In.none_ _ _ _ none 0 _ (Nat.zero_le _) (fun _ => rfl), fun h => (by rw [HR.out] at h; exact (by omega : False).elim), fun _ => ⟨rfl, rfl⟩, HB2.out.trans (hbt.below HB2.out.size (fun q hq => by omega))⟩
    case pos =>
      subst h0
      have HOkD : Hid (chkD d = 0) := HCd.out.symm
      clear HCd
      have HDo := hid (chkD_ok HOkD.out)
      have hsn := (chkState_rise HOkS.out).2.1
      have hdn := HDo.out.sn
      have hgn := HDo.out.gn
      obtain ⟨V2, hV2⟩ : ∃ X, X = W2.alloc (.cells #[.int .i64 d.num, .slice none 0 0] 24) := ⟨_, rfl⟩
      have hbV : Below W2.heap.size W2 V2 := by rw [hV2]; exact below1 _ _
      have HbO : Hid (Box V2 W2.heap.size #[.int .i64 d.num, .slice none 0 0] 24) := by show Box _ _ _ _; rw [hV2]; exact Box.new _ _ _
      have HVs : Hid (V2.heap.size = W2.heap.size + 1) := by show _ = _; rw [hV2]; simp
      have HV2 := hid hV2
      have b0 := HbD.out.cell 0
      have b1 := HbD.out.cell 1
      have b2 := HbD.out.cell 2
      have bl := HbD.out.lt
      simp at b0 b1 b2
      go_upto_region 8 with fail
      rw [← HV2.out]
      clear b0 b1 b2 bl
      replace HbS := hid (HbS.out.below hbV)
      replace HbD := hid (HbD.out.below hbV)
      replace HbR := hid (HbR.out.below hbV)
      replace HsI := hid (HsI.out.below hbV)
      replace HdI := hid (HdI.out.below hbV)
      have HBV : Hid (Below w.heap.size w V2) := HB2.out.trans (hbV.mono HB2.out.size)
      have HKy := hid (rkeys_any s d.set d.gone ⟨none, 0, 0, fun _ => ⟨#[]⟩⟩ V2 S HsI.out HdI.out.set HdI.out.gone (LT.In.none_ _ _ _ none 0 _ (Nat.zero_le _) (fun _ => rfl)) ⟨by omega, by omega, by omega, by show 0 ≤ 10000; omega⟩)
      dsimp only at HKy
      have a0 := HbS.out.cell 0
      have a1 := HbS.out.cell 1
      have al := HbS.out.lt
      simp at a0 a1
      have b0 := HbD.out.cell 0
      have b1 := HbD.out.cell 1
      have b2 := HbD.out.cell 2
      have bl := HbD.out.lt
      simp at b0 b1 b2
      clear hV2 hbV
      go_wp2_with fail
      refine HKy.out.mono ?_
      rintro e W3 ⟨vK, K, rfl, hK, hrow, hb3⟩
      replace HbS := hid (HbS.out.below hb3)
      replace HbD := hid (HbD.out.below hb3)
      replace HbR := hid (HbR.out.below hb3)
      replace HsI := hid (HsI.out.below hb3)
      replace HdI := hid (HdI.out.below hb3)
      replace HbO := hid (HbO.out.below hb3)
      have HB3 : Hid (Below w.heap.size w W3) := HBV.out.trans (hb3.mono HBV.out.size)
      have HApK : Hid (ApK s d K) := ⟨nl_rise.2 (chkState_rise HOkS.out).1, HDo.out, hK.rise, fun k => by rw [hK.mem, allK_mem]; constructor; { rintro (h | h | h | h); exact .inl h; exact .inr (.inl h); exact .inr (.inr h); simp [LT.toL] at h }; { rintro (h | h | h); exact .inl h; exact .inr (.inl h); exact .inr (.inr (.inl h)) }⟩
      have hKl : K.length ≤ 400 := by
        have h1 := nodup_len hK.rise.nodup (fun x hx => (hK.mem x).1 hx)
        have h2 : (allK s d.set d.gone ⟨none, 0, 0, fun _ => ⟨#[]⟩⟩).length ≤ 400 := by simp [allK, LT.toL_len]; omega
        omega
      obtain ⟨pk, ck, hvk⟩ := ownsRow_slice hrow
      obtain ⟨LK, hLK⟩ : ∃ n, n = K.length := ⟨_, rfl⟩
      rw [← hLK] at hvk hKl
      subst hvk
      have HLK := hid hLK
      have HRow := hid hrow
      have HZ3 : Hid (V2.heap.size ≤ W3.heap.size) := hb3.size
      obtain ⟨O, hO⟩ : ∃ O, O = W2.heap.size := ⟨_, rfl⟩
      have HO : Hid (w.heap.size + 3 ≤ O ∧ O < W3.heap.size ∧ V2.heap.size = O + 1) := by have := HVs.out; have := HZ3.out; have := HZ2.out; show _ ∧ _; omega
      rw [← hO] at HbO
      rw [← hO]
      obtain ⟨R, hR⟩ : ∃ R, R = jS s.nl d.gone.toL d.nS := ⟨_, rfl⟩
      have HRR := hid hR
      clear hK hrow hb3 hLK hO hR HKy HVs HZ3 HZ2 HV2 HW0 a0 a1 al b0 b1 b2 bl
      go_wp2_with fail
      go_loopw [9] (fun x wr => ∃ (k : Nat) (vO : Value) (xs : List VT), k ≤ LK ∧ x = .int .i64 (k : Int) ∧ ApI W3 wr O d.num vO xs ∧ xs.length ≤ k ∧ Gth VT.text K k R (xs.map VT.norm) ∧ ∀ g ∈ K.take k, g ∈ d.gone.toL → keyIn s.toL g) (fun x _ => LK - (intOf x).toNat)
      case atStart => exact ⟨0, _, [], Nat.zero_le _, rfl, ⟨HbO.out, CRow.nil _ _, But.refl _ _, HO.out.2.1⟩, Nat.le_refl _, Gth.start _ _ _, fun g h => by simp at h⟩
      case round =>
        obtain ⟨k, vO, xs, hk, rfl, hA, hxl, hG, hgo⟩ := hrel
        obtain ⟨po, co, hvo⟩ := ownsRow_slice hA.own.own
        subst hvo
        have hO := HO.out
        have bSr := HbS.out.but hA.but (by omega)
        have bDr := HbD.out.but hA.but (by omega)
        have bRr := HbR.out.but hA.but (by omega)
        have HsR := hid (HsI.out.but hA.but (fun b hb _ e => by have := HS.out b hb; omega))
        have HdR : Hid (DT.In wr S d) := HdI.out.kept hA.but.size (fun b hb hl => hA.but.block b hl (by have := HS.out b hb; omega))
        have HRowR : Hid (StRow V2.heap.size wr (.slice pk LK ck) K) := ownsRow_keep HRow.out fun q hq hl => hA.but.block q hl (by have := (HRow.out.lt q hq).1; omega)
        have HBr : Hid (Below w.heap.size w wr) := HB3.out.trans (hA.but.below HB3.out.size (fun q hq => by omega))
        have a0 := bSr.cell 0
        have a1 := bSr.cell 1
        have al := bSr.lt
        simp at a0 a1
        have b0 := bDr.cell 0
        have b1 := bDr.cell 1
        have b2 := bDr.cell 2
        have bl := bDr.lt
        simp at b0 b1 b2
        have HSr := hid bSr
        have HDr := hid bDr
        have HRr := hid bRr
        have HA := hid hA
        have HA0 : Hid (W3.heap.size ≤ wr.heap.size) := hA.but.size
        have HA00 : Hid (∀ b, (Value.slice po xs.length co).ownBlock = some b → b < wr.heap.size) := fun b hb => (hA.own.own.lt b hb).2
        have HG := hid hG
        have HGo := hid hgo
        clear hA hG hgo bSr bDr bRr hO
        by_cases hlt : k < LK
        · have hlt' : (k : Int) < (LK : Int) := by omega
          obtain ⟨key, hkey⟩ : ∃ key, K[k]? = some key := ⟨_, List.getElem?_eq_getElem (by have := HLK.out; omega)⟩
          obtain ⟨gk, hpk, hgk, hck⟩ := HRowR.out.at_ (by have := HLK.out; omega)
          have k0 := hck k key hkey
          have HKey := hid hkey
          rw [hpk]
          clear hck hkey hpk
          have HAt : Hid (∀ X, Below wr.heap.size wr X → Calls Try.prog 52 #[.slice s.p s.n s.c, .string key] X fun e w' => ∃ (u : VT) (had : Bool), e = .returned (.tuple #[.agg #[.string u.text, .slice u.p u.n u.c], .bool had]) ∧ AtR s key had u w' (fun b => X.heap.size ≤ b) ∧ Below X.heap.size X w') := fun X hX => rat_one s key X S ((HsR.out).below hX) HZs.out
          go_upto_region 12 with fail
          go_cut [10, 11] (fun s10 s11 wx => ∃ (bz : Nat) (u : VT) (had : Bool), s10 = .pointer (some ⟨bz, 0, none⟩) ∧ s11 = .bool had ∧ wr.heap.size ≤ bz ∧ Box wx bz #[.string u.text, .slice u.p u.n u.c] 62 ∧ AtR s key had u wx (fun b => wr.heap.size ≤ b ∧ b ≠ bz) ∧ Below wr.heap.size wr wx)
          case first =>
            refine wp_region_calmE 30 (fun wx => Below wr.heap.size wr wx) [(0, true), (1, false), (2, true), (3, true), (4, true), (5, false)] (.two 6 true [(7, true), (8, true), (9, true)] (.one 10 true [] (.one 11 false [(12, true)] .done)) 10 true [] (.one 6 true [(7, true), (8, true), (9, true)] (.one 11 false [(12, true)] .done))) (by kernel_rfl) (by kernel_rfl) (Below.refl _ _).drew ?_
            refine wpPre_e rfl rfl (fun K1 hK1 => ?_)
            apply Exists.intro
            refine And.intro (fun wx hx => ?_) ?_
            · go_simp
              try rfl
            go_simp
            refine hK1 _ ?_
            clear hK1 K1
            refine wpPre_e rfl rfl (fun K1 hK1 => ?_)
            apply Exists.intro
            refine And.intro (fun wx hx => ?_) ?_
            · have e0 := below_fact hx rfl a0
              have e1 := below_fact hx rfl a1
              have e2 := below_fact hx rfl k0
              go_simp
              try rfl
            go_simp
            refine hK1 _ ?_
            clear hK1 K1
            refine wpPre_e rfl rfl (fun K1 hK1 => ?_)
            apply Exists.intro
            refine And.intro (fun wx hx => ?_) ?_
            · go_simp
              try rfl
            go_simp
            refine hK1 _ ?_
            clear hK1 K1
            refine wpPre_e rfl rfl (fun K1 hK1 => ?_)
            apply Exists.intro
            refine And.intro (fun wx hx => ?_) ?_
            · go_simp
              try rfl
            go_simp
            refine hK1 _ ?_
            clear hK1 K1
            refine wpPre_e rfl rfl (fun K1 hK1 => ?_)
            apply Exists.intro
            refine And.intro (fun wx hx => ?_) ?_
            · go_simp
              try rfl
            go_simp
            refine hK1 _ ?_
            clear hK1 K1
            refine wpPre_e rfl rfl (fun K1 hK1 => ?_)
            apply Exists.intro
            refine And.intro (fun wx hx => ?_) ?_
            · have e0 := below_fact hx rfl a0
              have e1 := below_fact hx rfl a1
              have e2 := below_fact hx rfl k0
              go_simp
              try rfl
            go_simp
            refine hK1 _ ?_
            clear hK1 K1
            refine wpPre_nil ?_
            refine wpTr_two rfl rfl (fun K1 hK1 => ?_) (fun K1 hK1 => ?_)
            · refine step_call rfl 52 #[.tmp 45, .tmp 49] _ rfl Try.f52 Try.func52 (by kernel_rfl) rfl #[.slice s.p s.n s.c, .string key] rfl _ (HAt.out _ (Below.refl wr.heap.size wr).drew) (fun e w1 h1 => ?_)
              obtain ⟨u, had, rfl, hat, hb1⟩ := h1
              have HB1 : Hid (Below wr.heap.size wr w1) := (Below.refl wr.heap.size wr).drew.trans hb1
              have HA1 := hid hat
              clear hb1 hat
              refine ⟨_, rfl, ?_⟩
              go_simp
              refine hK1 _ _ (fun _ => HB1.out) ?_
              clear hK1 K1
              refine wpPre_e rfl rfl (fun K1 hK1 => ?_)
              apply Exists.intro
              refine And.intro (fun wx hx => ?_) ?_
              · go_simp
                try rfl
              go_simp
              refine hK1 _ ?_
              clear hK1 K1
              refine wpPre_e rfl rfl (fun K1 hK1 => ?_)
              apply Exists.intro
              refine And.intro (fun wx hx => ?_) ?_
              · go_simp
                try rfl
              go_simp
              refine hK1 _ ?_
              clear hK1 K1
              refine wpPre_e rfl rfl (fun K1 hK1 => ?_)
              apply Exists.intro
              refine And.intro (fun wx hx => ?_) ?_
              · go_simp
                try rfl
              go_simp
              refine hK1 _ ?_
              clear hK1 K1
              refine wpPre_nil ?_
              refine wpTr_e rfl (fun K1 hK1 => ?_)
              go_simp
              refine hK1 _ _ (fun _ => HB1.out.trans ((below1 w1 _).mono HB1.out.size)) ?_
              clear hK1 K1
              refine wpPre_nil ?_
              refine wpTr_e rfl (fun K1 hK1 => ?_)
              go_simp
              refine hK1 _ _ (fun h => by cases h) ?_
              clear hK1 K1
              refine wpPre_e rfl rfl (fun K1 hK1 => ?_)
              apply Exists.intro
              refine And.intro (fun wx hx => ?_) ?_
              · go_simp
                try rfl
              go_simp
              refine hK1 _ ?_
              clear hK1 K1
              refine wpPre_nil ?_
              refine wpTr_done ?_
              go_wp2_with fail
              go_meet
              exact ⟨w1.heap.size, u, had, rfl, rfl, HB1.out.size, Box.new _ _ _, HA1.out.keep (by simp) (fun b _ hl => Below.heap_alloc _ _ _ hl) (fun b hb hl => ⟨hb, by omega⟩), HB1.out.trans ((below1 w1 _).mono HB1.out.size)⟩
            · go_simp
              obtain ⟨V, hV⟩ : ∃ V, V = (wr.alloc (.cells #[.string ⟨#[]⟩, .slice none 0 0] 62)).drew := ⟨_, rfl⟩
              have HBV : Hid (Below wr.heap.size wr V) := by show Below _ _ _; rw [hV]; exact (below1 wr _).drew
              have HBx : Hid (Box V wr.heap.size #[.string ⟨#[]⟩, .slice none 0 0] 62) := by show Box _ _ _ _; rw [hV]; exact Box.new wr _ _
              have HVs : Hid (V.heap.size = wr.heap.size + 1) := by show _ = _; rw [hV]; simp
              rw [← hV]
              clear hV
              refine hK1 _ _ (fun _ => HBV.out) ?_
              clear hK1 K1
              refine wpPre_nil ?_
              refine wpTr_e rfl (fun K1 hK1 => ?_)
              refine step_call rfl 52 #[.tmp 45, .tmp 49] _ rfl Try.f52 Try.func52 (by kernel_rfl) rfl #[.slice s.p s.n s.c, .string key] rfl _ (HAt.out _ HBV.out) (fun e w1 h1 => ?_)
              obtain ⟨u, had, rfl, hat, hb1⟩ := h1
              have HB1 : Hid (Below wr.heap.size wr w1) := HBV.out.trans (hb1.mono HBV.out.size)
              have HA1 := hid hat
              have bx := HBx.out.below hb1
              have q0 := bx.cell 0
              have q1 := bx.cell 1
              have g0 := bx.frozen 0
              have g1 := bx.frozen 1
              have ql := bx.lt
              simp at q0 q1
              have HX1 := hid bx
              clear hb1 hat bx
              refine ⟨_, rfl, ?_⟩
              go_simp
              refine hK1 _ _ (fun _ => HB1.out) ?_
              clear hK1 K1
              refine wpPre_e rfl rfl (fun K1 hK1 => ?_)
              apply Exists.intro
              refine And.intro (fun wx hx => ?_) ?_
              · go_simp
                try rfl
              go_simp
              refine hK1 _ ?_
              clear hK1 K1
              refine wpPre_e rfl rfl (fun K1 hK1 => ?_)
              apply Exists.intro
              refine And.intro (fun wx hx => ?_) ?_
              · go_simp
                try rfl
              go_simp
              refine hK1 _ ?_
              clear hK1 K1
              refine wpPre_e rfl rfl (fun K1 hK1 => ?_)
              apply Exists.intro
              refine And.intro (fun wx hx => ?_) ?_
              · go_simp
                try rfl
              go_simp
              refine hK1 _ ?_
              clear hK1 K1
              refine wpPre_nil ?_
              refine wpTr_e rfl (fun K1 hK1 => ?_)
              go_simp
              refine hK1 _ _ (fun h => by cases h) ?_
              clear hK1 K1
              refine wpPre_e rfl rfl (fun K1 hK1 => ?_)
              apply Exists.intro
              refine And.intro (fun wx hx => ?_) ?_
              · go_simp
                try rfl
              go_simp
              refine hK1 _ ?_
              clear hK1 K1
              refine wpPre_nil ?_
              refine wpTr_done ?_
              go_wp2_with fail
              go_meet
              have hvs := HVs.out
              have hbt : But (fun x => x = wr.heap.size) w1 ((w1.setCell ⟨wr.heap.size, 0, none⟩ (.string u.text)).setCell ⟨wr.heap.size, 1, none⟩ (.slice u.p u.n u.c)) := ((But.one _ _).setAt 0 _).setAt 1 _
              exact ⟨wr.heap.size, u, had, rfl, rfl, Nat.le_refl _, by simpa using (HX1.out.set 0 (.string u.text)).set 1 (.slice u.p u.n u.c), HA1.out.keep hbt.size (fun b hb hl => hbt.block b hl (by omega)) (fun b hb hl => ⟨by omega, by omega⟩), HB1.out.trans (hbt.below HB1.out.size (fun q hq => by omega))⟩
          case rest =>
            obtain ⟨bx, x, had, rfl, rfl, hbx0, hbxB, hatx, hbel⟩ := hcut
            obtain ⟨X1, hX1⟩ : ∃ X, X = wc := ⟨_, rfl⟩
            subst hX1
            have HAx := hid hatx
            have HBx := hid hbxB
            have HZx : Hid (wr.heap.size ≤ bx ∧ bx < X1.heap.size) := ⟨hbx0, hbxB.lt⟩
            have k1 : X1.cell? ⟨gk, k, none⟩ = some (.string key) := (World.cell?_of_block (a := ⟨gk, k, none⟩) (hbel.block gk hgk)).trans k0
            have hgk1 : gk < X1.heap.size := Nat.lt_of_lt_of_le hgk hbel.size
            replace HDr := hid (HDr.out.below hbel)
            replace HRr := hid (HRr.out.below hbel)
            replace HsR := hid (HsR.out.below hbel)
            replace HdR := hid (HdR.out.below hbel)
            replace HA := hid (HA.out.below hbel)
            replace HBr := hid (HBr.out.trans (hbel.mono HBr.out.size))
            have HW1 := hid hbel
            clear hbx0 hbxB hatx hbel HAt k0 hgk a0 a1 al b0 b1 b2 bl
            have b0 := HDr.out.cell 0
            have b1 := HDr.out.cell 1
            have b2 := HDr.out.cell 2
            have bl := HDr.out.lt
            simp at b0 b1 b2
            have HAt : Hid (∀ X, Below X1.heap.size X1 X → Calls Try.prog 52 #[.slice d.set.p d.set.n d.set.c, .string key] X fun e w' => ∃ (u : VT) (had : Bool), e = .returned (.tuple #[.agg #[.string u.text, .slice u.p u.n u.c], .bool had]) ∧ AtR d.set key had u w' (fun b => X.heap.size ≤ b) ∧ Below X.heap.size X w') := fun X hX => rat_one d.set key X S ((HdR.out.set).below hX) ⟨HZd.out.set, HZd.out.item⟩
            go_upto_region 13 with fail
            go_cut [12, 13] (fun s12 s13 wx => ∃ (bz : Nat) (u : VT) (had : Bool), s12 = .pointer (some ⟨bz, 0, none⟩) ∧ s13 = .bool had ∧ X1.heap.size ≤ bz ∧ Box wx bz #[.string u.text, .slice u.p u.n u.c] 62 ∧ AtR d.set key had u wx (fun b => X1.heap.size ≤ b ∧ b ≠ bz) ∧ Below X1.heap.size X1 wx)
            case first =>
              refine wp_region_calmE 30 (fun wx => Below X1.heap.size X1 wx) [(0, true), (1, false), (2, true), (3, true), (4, true), (5, false)] (.two 6 true [(7, true), (8, true), (9, true)] (.one 10 true [] (.one 11 false [(12, true)] .done)) 10 true [] (.one 6 true [(7, true), (8, true), (9, true)] (.one 11 false [(12, true)] .done))) (by kernel_rfl) (by kernel_rfl) (Below.refl _ _).drew ?_
              refine wpPre_e rfl rfl (fun K1 hK1 => ?_)
              apply Exists.intro
              refine And.intro (fun wx hx => ?_) ?_
              · go_simp
                try rfl
              go_simp
              refine hK1 _ ?_
              clear hK1 K1
              refine wpPre_e rfl rfl (fun K1 hK1 => ?_)
              apply Exists.intro
              refine And.intro (fun wx hx => ?_) ?_
              · have e0 := below_fact hx rfl b0
                have e1 := below_fact hx rfl b1
                have e2 := below_fact hx rfl b2
                have e3 := below_fact hx rfl k1
                go_simp
                try rfl
              go_simp
              refine hK1 _ ?_
              clear hK1 K1
              refine wpPre_e rfl rfl (fun K1 hK1 => ?_)
              apply Exists.intro
              refine And.intro (fun wx hx => ?_) ?_
              · go_simp
                try rfl
              go_simp
              refine hK1 _ ?_
              clear hK1 K1
              refine wpPre_e rfl rfl (fun K1 hK1 => ?_)
              apply Exists.intro
              refine And.intro (fun wx hx => ?_) ?_
              · go_simp
                try rfl
              go_simp
              refine hK1 _ ?_
              clear hK1 K1
              refine wpPre_e rfl rfl (fun K1 hK1 => ?_)
              apply Exists.intro
              refine And.intro (fun wx hx => ?_) ?_
              · go_simp
                try rfl
              go_simp
              refine hK1 _ ?_
              clear hK1 K1
              refine wpPre_e rfl rfl (fun K1 hK1 => ?_)
              apply Exists.intro
              refine And.intro (fun wx hx => ?_) ?_
              · have e0 := below_fact hx rfl b0
                have e1 := below_fact hx rfl b1
                have e2 := below_fact hx rfl b2
                have e3 := below_fact hx rfl k1
                go_simp
                try rfl
              go_simp
              refine hK1 _ ?_
              clear hK1 K1
              refine wpPre_nil ?_
              refine wpTr_two rfl rfl (fun K1 hK1 => ?_) (fun K1 hK1 => ?_)
              · refine step_call rfl 52 #[.tmp 55, .tmp 59] _ rfl Try.f52 Try.func52 (by kernel_rfl) rfl #[.slice d.set.p d.set.n d.set.c, .string key] rfl _ (HAt.out _ (Below.refl X1.heap.size X1).drew) (fun e w1 h1 => ?_)
                obtain ⟨u, had, rfl, hat, hb1⟩ := h1
                have HB1 : Hid (Below X1.heap.size X1 w1) := (Below.refl X1.heap.size X1).drew.trans hb1
                have HA1 := hid hat
                clear hb1 hat
                refine ⟨_, rfl, ?_⟩
                go_simp
                refine hK1 _ _ (fun _ => HB1.out) ?_
                clear hK1 K1
                refine wpPre_e rfl rfl (fun K1 hK1 => ?_)
                apply Exists.intro
                refine And.intro (fun wx hx => ?_) ?_
                · go_simp
                  try rfl
                go_simp
                refine hK1 _ ?_
                clear hK1 K1
                refine wpPre_e rfl rfl (fun K1 hK1 => ?_)
                apply Exists.intro
                refine And.intro (fun wx hx => ?_) ?_
                · go_simp
                  try rfl
                go_simp
                refine hK1 _ ?_
                clear hK1 K1
                refine wpPre_e rfl rfl (fun K1 hK1 => ?_)
                apply Exists.intro
                refine And.intro (fun wx hx => ?_) ?_
                · go_simp
                  try rfl
                go_simp
                refine hK1 _ ?_
                clear hK1 K1
                refine wpPre_nil ?_
                refine wpTr_e rfl (fun K1 hK1 => ?_)
                go_simp
                refine hK1 _ _ (fun _ => HB1.out.trans ((below1 w1 _).mono HB1.out.size)) ?_
                clear hK1 K1
                refine wpPre_nil ?_
                refine wpTr_e rfl (fun K1 hK1 => ?_)
                go_simp
                refine hK1 _ _ (fun h => by cases h) ?_
                clear hK1 K1
                refine wpPre_e rfl rfl (fun K1 hK1 => ?_)
                apply Exists.intro
                refine And.intro (fun wx hx => ?_) ?_
                · go_simp
                  try rfl
                go_simp
                refine hK1 _ ?_
                clear hK1 K1
                refine wpPre_nil ?_
                refine wpTr_done ?_
                go_wp2_with fail
                go_meet
                exact ⟨w1.heap.size, u, had, rfl, rfl, HB1.out.size, Box.new _ _ _, HA1.out.keep (by simp) (fun b _ hl => Below.heap_alloc _ _ _ hl) (fun b hb hl => ⟨hb, by omega⟩), HB1.out.trans ((below1 w1 _).mono HB1.out.size)⟩
              · go_simp
                obtain ⟨V, hV⟩ : ∃ V, V = (X1.alloc (.cells #[.string ⟨#[]⟩, .slice none 0 0] 62)).drew := ⟨_, rfl⟩
                have HBV : Hid (Below X1.heap.size X1 V) := by show Below _ _ _; rw [hV]; exact (below1 X1 _).drew
                have HBx : Hid (Box V X1.heap.size #[.string ⟨#[]⟩, .slice none 0 0] 62) := by show Box _ _ _ _; rw [hV]; exact Box.new X1 _ _
                have HVs : Hid (V.heap.size = X1.heap.size + 1) := by show _ = _; rw [hV]; simp
                rw [← hV]
                clear hV
                refine hK1 _ _ (fun _ => HBV.out) ?_
                clear hK1 K1
                refine wpPre_nil ?_
                refine wpTr_e rfl (fun K1 hK1 => ?_)
                refine step_call rfl 52 #[.tmp 55, .tmp 59] _ rfl Try.f52 Try.func52 (by kernel_rfl) rfl #[.slice d.set.p d.set.n d.set.c, .string key] rfl _ (HAt.out _ HBV.out) (fun e w1 h1 => ?_)
                obtain ⟨u, had, rfl, hat, hb1⟩ := h1
                have HB1 : Hid (Below X1.heap.size X1 w1) := HBV.out.trans (hb1.mono HBV.out.size)
                have HA1 := hid hat
                have bx := HBx.out.below hb1
                have q0 := bx.cell 0
                have q1 := bx.cell 1
                have g0 := bx.frozen 0
                have g1 := bx.frozen 1
                have ql := bx.lt
                simp at q0 q1
                have HX1 := hid bx
                clear hb1 hat bx
                refine ⟨_, rfl, ?_⟩
                go_simp
                refine hK1 _ _ (fun _ => HB1.out) ?_
                clear hK1 K1
                refine wpPre_e rfl rfl (fun K1 hK1 => ?_)
                apply Exists.intro
                refine And.intro (fun wx hx => ?_) ?_
                · go_simp
                  try rfl
                go_simp
                refine hK1 _ ?_
                clear hK1 K1
                refine wpPre_e rfl rfl (fun K1 hK1 => ?_)
                apply Exists.intro
                refine And.intro (fun wx hx => ?_) ?_
                · go_simp
                  try rfl
                go_simp
                refine hK1 _ ?_
                clear hK1 K1
                refine wpPre_e rfl rfl (fun K1 hK1 => ?_)
                apply Exists.intro
                refine And.intro (fun wx hx => ?_) ?_
                · go_simp
                  try rfl
                go_simp
                refine hK1 _ ?_
                clear hK1 K1
                refine wpPre_nil ?_
                refine wpTr_e rfl (fun K1 hK1 => ?_)
                go_simp
                refine hK1 _ _ (fun h => by cases h) ?_
                clear hK1 K1
                refine wpPre_e rfl rfl (fun K1 hK1 => ?_)
                apply Exists.intro
                refine And.intro (fun wx hx => ?_) ?_
                · go_simp
                  try rfl
                go_simp
                refine hK1 _ ?_
                clear hK1 K1
                refine wpPre_nil ?_
                refine wpTr_done ?_
                go_wp2_with fail
                go_meet
                have hvs := HVs.out
                have hbt : But (fun x => x = X1.heap.size) w1 ((w1.setCell ⟨X1.heap.size, 0, none⟩ (.string u.text)).setCell ⟨X1.heap.size, 1, none⟩ (.slice u.p u.n u.c)) := ((But.one _ _).setAt 0 _).setAt 1 _
                exact ⟨X1.heap.size, u, had, rfl, rfl, Nat.le_refl _, by simpa using (HX1.out.set 0 (.string u.text)).set 1 (.slice u.p u.n u.c), HA1.out.keep hbt.size (fun b hb hl => hbt.block b hl (by omega)) (fun b hb hl => ⟨by omega, by omega⟩), HB1.out.trans (hbt.below HB1.out.size (fun q hq => by omega))⟩
            case rest =>
              obtain ⟨bY, y, set_, rfl, rfl, hbx0, hbxB, hatx, hbel⟩ := hcut
              obtain ⟨X2, hX2⟩ : ∃ X, X = wc := ⟨_, rfl⟩
              subst hX2
              have HAy := hid hatx
              have HBy := hid hbxB
              have HZy : Hid (X1.heap.size ≤ bY ∧ bY < X2.heap.size) := ⟨hbx0, hbxB.lt⟩
              have k2 : X2.cell? ⟨gk, k, none⟩ = some (.string key) := (World.cell?_of_block (a := ⟨gk, k, none⟩) (hbel.block gk hgk1)).trans k1
              have hgk2 : gk < X2.heap.size := Nat.lt_of_lt_of_le hgk1 hbel.size
              replace HDr := hid (HDr.out.below hbel)
              replace HRr := hid (HRr.out.below hbel)
              replace HdR := hid (HdR.out.below hbel)
              replace HA := hid (HA.out.below hbel)
              replace HBx := hid (HBx.out.below hbel)
              replace HAx := hid (HAx.out.keep hbel.size (fun b _ hl => hbel.block b hl) (fun b hb _ => hb))
              replace HBr := hid (HBr.out.trans (hbel.mono HBr.out.size))
              have HW2 := hid hbel
              clear hbx0 hbxB hatx hbel HAt k1 hgk1 HsR b0 b1 b2 bl
              have b0 := HDr.out.cell 0
              have b1 := HDr.out.cell 1
              have b2 := HDr.out.cell 2
              have bl := HDr.out.lt
              simp at b0 b1 b2
              have HIn := hid (rin_any d.gone key X2.drew S (HdR.out.gone.below (Below.refl _ _).drew))
              go_upto_region 14 with fail
              refine wp_region_calmE 30 (fun wx => Below X2.heap.size X2 wx) [(0, true), (1, false), (2, true), (3, true), (4, true), (5, false)] (.one 6 false [(7, true)] .done) (by kernel_rfl) (by kernel_rfl) (Below.refl _ _).drew ?_
              refine wpPre_e rfl rfl (fun K1 hK1 => ?_)
              apply Exists.intro
              refine And.intro (fun wx hx => ?_) ?_
              · go_simp
                try rfl
              go_simp
              refine hK1 _ ?_
              clear hK1 K1
              refine wpPre_e rfl rfl (fun K1 hK1 => ?_)
              apply Exists.intro
              refine And.intro (fun wx hx => ?_) ?_
              · have e0 := below_fact hx rfl b0
                have e1 := below_fact hx rfl b1
                have e2 := below_fact hx rfl b2
                have e3 := below_fact hx rfl k2
                go_simp
                try rfl
              go_simp
              refine hK1 _ ?_
              clear hK1 K1
              refine wpPre_e rfl rfl (fun K1 hK1 => ?_)
              apply Exists.intro
              refine And.intro (fun wx hx => ?_) ?_
              · go_simp
                try rfl
              go_simp
              refine hK1 _ ?_
              clear hK1 K1
              refine wpPre_e rfl rfl (fun K1 hK1 => ?_)
              apply Exists.intro
              refine And.intro (fun wx hx => ?_) ?_
              · go_simp
                try rfl
              go_simp
              refine hK1 _ ?_
              clear hK1 K1
              refine wpPre_e rfl rfl (fun K1 hK1 => ?_)
              apply Exists.intro
              refine And.intro (fun wx hx => ?_) ?_
              · go_simp
                try rfl
              go_simp
              refine hK1 _ ?_
              clear hK1 K1
              refine wpPre_e rfl rfl (fun K1 hK1 => ?_)
              apply Exists.intro
              refine And.intro (fun wx hx => ?_) ?_
              · have e0 := below_fact hx rfl b0
                have e1 := below_fact hx rfl b1
                have e2 := below_fact hx rfl b2
                have e3 := below_fact hx rfl k2
                go_simp
                try rfl
              go_simp
              refine hK1 _ ?_
              clear hK1 K1
              refine wpPre_nil ?_
              refine wpTr_e rfl (fun K1 hK1 => ?_)
              refine step_callG (by first | rfl | go_simp) 53 #[.tmp 64, .tmp 68] _ rfl Try.f53 Try.func53 (by kernel_rfl) rfl #[.slice d.gone.p d.gone.n d.gone.c, .string key] rfl _ (HIn.out) ?_
              rintro e_ X9 ⟨gone, rfl, hgone, rfl⟩
              refine ⟨_, rfl, ?_⟩
              have HGn := hid hgone
              clear hgone
              go_simp
              refine hK1 _ _ (fun h => by cases h) ?_
              clear hK1 K1
              refine wpPre_e rfl rfl (fun K1 hK1 => ?_)
              apply Exists.intro
              refine And.intro (fun wx hx => ?_) ?_
              · go_simp
                try rfl
              go_simp
              refine hK1 _ ?_
              clear hK1 K1
              refine wpPre_nil ?_
              refine wpTr_done ?_
              obtain ⟨X3, hX3⟩ : ∃ X, X = X2.drew := ⟨_, rfl⟩
              have hb3 : Below X2.heap.size X2 X3 := by rw [hX3]; exact (Below.refl _ _).drew
              have HX3s : Hid (X3.heap.size = X2.heap.size) := by show _ = _; rw [hX3]; rfl
              rw [← hX3]
              replace HRr := hid (HRr.out.below hb3)
              replace HA := hid (HA.out.below hb3)
              replace HBx := hid (HBx.out.below hb3)
              replace HBy := hid (HBy.out.below hb3)
              replace HAx := hid (HAx.out.keep hb3.size (fun b _ hl => hb3.block b hl) (fun b hb _ => hb))
              replace HAy := hid (HAy.out.keep hb3.size (fun b _ hl => hb3.block b hl) (fun b hb _ => hb))
              replace HBr := hid (HBr.out.trans (hb3.mono HBr.out.size))
              clear hb3 hX3 HIn k2 hgk2 HdR HDr b0 b1 b2 bl
              have HKx := hid HAx.out.key
              have HKyy := hid HAy.out.key
              cases gone with
              | true =>
                have HGm : Hid (key ∈ d.gone.toL) := HGn.out.1 rfl
                cases had with
                | true =>
                  have HGo5 : Hid (∀ g ∈ K.take (k + 1), g ∈ d.gone.toL → keyIn s.toL g) := by
                    intro g hg hg2
                    rw [take_snoc HKey.out] at hg
                    rcases List.mem_append.1 hg with hg | hg
                    · exact HGo.out g hg hg2
                    · rw [List.mem_singleton] at hg; subst hg; exact HKx.out.1 rfl
                  cases set_ with
                  | true =>
                    have bo := HA.out.box
                    have o0 := bo.cell 0
                    have o1 := bo.cell 1
                    have ol := bo.lt
                    simp at o0 o1
                    clear bo
                    have bu := HBy.out
                    have u0 := bu.cell 0
                    have u1 := bu.cell 1
                    have ul := bu.lt
                    simp at u0 u1
                    clear bu
                    have HUi := hid (HAy.out.yes rfl)
                    go_wp2_with (at_builtin; refine wpList_app rfl (.tmp 80) (.tmp 82) 22 62 i0 _ 2 40 HKd.out rfl W3.heap.size (.slice po xs.length co) xs.length _ rfl (World.ownsRow.alloc HA.out.own.own _) ⟨X3.heap.size, 0, none⟩ 1 1 [.string y.text, .slice y.p y.n y.c] rfl rfl (newsC X3 _ _) (oneC _ _ _ _) (by omega) (by omega) (by have := HA.out.but.size; simp; omega) ?_)
                    intro v5 w5 ho5 hg5 hn5
                    obtain ⟨p5, c5, rfl⟩ := ownsRow_slice ho5
                    have HA5 : Hid (ApI W3 (w5.setCell ⟨O, 1, none⟩ (.slice p5 (xs.length + 1) c5)) O d.num (.slice p5 (xs.length + 1) c5) (xs ++ [y])) := HA.out.step (HUi.out.2.2.mono fun b hb hl => ⟨by have := HA0.out; have := hb.1; have := HW1.out.size; omega, fun e => by have := HA00.out b e; have := hb.1; have := HW1.out.size; omega⟩) ho5 hg5 hn5
                    have bm := HA.out.mid hg5
                    have m0 := bm.cell 0
                    have m1 := bm.cell 1
                    have mf1 := bm.frozen 1
                    have ml := bm.lt
                    simp at m0 m1
                    have HG5 : Hid (Gth VT.text K (k + 1) R ((xs ++ [y]).map VT.norm)) := by
                      show Gth _ _ _ _ _
                      rw [List.map_append, List.map_singleton]
                      exact HG.out.add HApK.out.rK (by rw [HRR.out]; exact HApK.out.rR) HKey.out (by rw [HRR.out]; exact (jS_mem HApK.out.hs (nS_rise HDo.out.set) HDo.out.gone _).2 (.inl HUi.out.2.1)) (by rw [norm_text]; exact HUi.out.1)
                    clear ho5 hg5 hn5 bm
                    go_wp2
                    go_roundw
                    case rel => exact ⟨k + 1, _, _, by omega, by go_num, HA5.out, by rw [List.length_append, List.length_singleton]; omega, HG5.out, HGo5.out⟩
                    case measure => simp [intOf]; omega
                  | false =>
                    have HG5 : Hid (Gth VT.text K (k + 1) R (xs.map VT.norm)) := HG.out.skip HKey.out (fun c hc e => by
                      rw [HRR.out] at hc
                      rcases (keyIn_jS HApK.out.hs (nS_rise HDo.out.set) HDo.out.gone key).1 ⟨c, hc, e⟩ with h | ⟨_, h⟩
                      · exact HAy.out.no rfl (keyIn_norm.1 h)
                      · exact h HGm.out)
                    go_wp2
                    go_roundw
                    case rel => exact ⟨k + 1, _, _, by omega, by go_num, HA.out, by omega, HG5.out, HGo5.out⟩
                    case measure => simp [intOf]; omega
                | false =>
                  have HR : Hid (applyE sn s d = 110) := (applyE_val HOkS.out HOkD.out).1 ⟨key, HGm.out, HAx.out.no rfl⟩
                  have r0 := HRr.out.cell 0
                  have rf0 := HRr.out.frozen 0
                  have r1 := HRr.out.cell 1
                  have rf1 := HRr.out.frozen 1
                  have rl := HRr.out.lt
                  simp at r0 r1
                  go_wp2
                  have hbx : Box ((X3.setCell ⟨w.heap.size + 2, 0, none⟩ (.int .i64 0)).setCell ⟨w.heap.size + 2, 1, none⟩ (.slice none 0 0)) (w.heap.size + 2) #[.int .i64 0, .slice none 0 0] 24 := by simpa using (HRr.out.set 0 (.int .i64 0)).set 1 (.slice none 0 0)
                  have hbt : But (fun x => x = w.heap.size + 2) X3 ((X3.setCell ⟨w.heap.size + 2, 0, none⟩ (.int .i64 0)).setCell ⟨w.heap.size + 2, 1, none⟩ (.slice none 0 0)) := ((But.one _ _).setAt 0 _).setAt 1 _
                  have g0 := hbx.cell 0
                  have g1 := hbx.cell 1
                  simp at g0 g1
                  exact bodyPost_ret (v := .tuple #[.agg #[.int .i64 0, .slice none 0 0], .int .i64 (110)]) (by simp [results, Try.results24, go_sem, g0, g1]) rfl ⟨0, ⟨none, 0, 0, fun _ => zC⟩, by rw [HR.out]; try rfl, LT.In.none_ _ _ _ none 0 _ (Nat.zero_le _) (fun _ => rfl), fun h => (by rw [HR.out] at h; exact (by omega : False).elim), fun _ => ⟨rfl, rfl⟩, HBr.out.trans (hbt.below HBr.out.size (fun q hq => by omega))⟩
              | false =>
                have HGm : Hid (key ∉ d.gone.toL) := fun h => by have := HGn.out.2 h; cases this
                cases had with
                | true =>
                  have HGo5 : Hid (∀ g ∈ K.take (k + 1), g ∈ d.gone.toL → keyIn s.toL g) := by
                    intro g hg hg2
                    rw [take_snoc HKey.out] at hg
                    rcases List.mem_append.1 hg with hg | hg
                    · exact HGo.out g hg hg2
                    · rw [List.mem_singleton] at hg; subst hg; exact HKx.out.1 rfl
                  cases set_ with
                  | true =>
                    have bo := HA.out.box
                    have o0 := bo.cell 0
                    have o1 := bo.cell 1
                    have ol := bo.lt
                    simp at o0 o1
                    clear bo
                    have bu := HBy.out
                    have u0 := bu.cell 0
                    have u1 := bu.cell 1
                    have ul := bu.lt
                    simp at u0 u1
                    clear bu
                    have HUi := hid (HAy.out.yes rfl)
                    go_wp2_with (at_builtin; refine wpList_app rfl (.tmp 80) (.tmp 82) 22 62 i0 _ 2 40 HKd.out rfl W3.heap.size (.slice po xs.length co) xs.length _ rfl (World.ownsRow.alloc HA.out.own.own _) ⟨X3.heap.size, 0, none⟩ 1 1 [.string y.text, .slice y.p y.n y.c] rfl rfl (newsC X3 _ _) (oneC _ _ _ _) (by omega) (by omega) (by have := HA.out.but.size; simp; omega) ?_)
                    intro v5 w5 ho5 hg5 hn5
                    obtain ⟨p5, c5, rfl⟩ := ownsRow_slice ho5
                    have HA5 : Hid (ApI W3 (w5.setCell ⟨O, 1, none⟩ (.slice p5 (xs.length + 1) c5)) O d.num (.slice p5 (xs.length + 1) c5) (xs ++ [y])) := HA.out.step (HUi.out.2.2.mono fun b hb hl => ⟨by have := HA0.out; have := hb.1; have := HW1.out.size; omega, fun e => by have := HA00.out b e; have := hb.1; have := HW1.out.size; omega⟩) ho5 hg5 hn5
                    have bm := HA.out.mid hg5
                    have m0 := bm.cell 0
                    have m1 := bm.cell 1
                    have mf1 := bm.frozen 1
                    have ml := bm.lt
                    simp at m0 m1
                    have HG5 : Hid (Gth VT.text K (k + 1) R ((xs ++ [y]).map VT.norm)) := by
                      show Gth _ _ _ _ _
                      rw [List.map_append, List.map_singleton]
                      exact HG.out.add HApK.out.rK (by rw [HRR.out]; exact HApK.out.rR) HKey.out (by rw [HRR.out]; exact (jS_mem HApK.out.hs (nS_rise HDo.out.set) HDo.out.gone _).2 (.inl HUi.out.2.1)) (by rw [norm_text]; exact HUi.out.1)
                    clear ho5 hg5 hn5 bm
                    go_wp2
                    go_roundw
                    case rel => exact ⟨k + 1, _, _, by omega, by go_num, HA5.out, by rw [List.length_append, List.length_singleton]; omega, HG5.out, HGo5.out⟩
                    case measure => simp [intOf]; omega
                  | false =>
                    have bo := HA.out.box
                    have o0 := bo.cell 0
                    have o1 := bo.cell 1
                    have ol := bo.lt
                    simp at o0 o1
                    clear bo
                    have bu := HBx.out
                    have u0 := bu.cell 0
                    have u1 := bu.cell 1
                    have ul := bu.lt
                    simp at u0 u1
                    clear bu
                    have HUi := hid (HAx.out.yes rfl)
                    go_wp2_with (at_builtin; refine wpList_app rfl (.tmp 89) (.tmp 91) 22 62 i0 _ 2 40 HKd.out rfl W3.heap.size (.slice po xs.length co) xs.length _ rfl (World.ownsRow.alloc HA.out.own.own _) ⟨X3.heap.size, 0, none⟩ 1 1 [.string x.text, .slice x.p x.n x.c] rfl rfl (newsC X3 _ _) (oneC _ _ _ _) (by omega) (by omega) (by have := HA.out.but.size; simp; omega) ?_)
                    intro v5 w5 ho5 hg5 hn5
                    obtain ⟨p5, c5, rfl⟩ := ownsRow_slice ho5
                    have HA5 : Hid (ApI W3 (w5.setCell ⟨O, 1, none⟩ (.slice p5 (xs.length + 1) c5)) O d.num (.slice p5 (xs.length + 1) c5) (xs ++ [x])) := HA.out.step (HUi.out.2.2.mono fun b hb hl => ⟨by have := HA0.out; have := hb.1; have := HW1.out.size; omega, fun e => by have := HA00.out b e; have := hb.1; have := HW1.out.size; omega⟩) ho5 hg5 hn5
                    have bm := HA.out.mid hg5
                    have m0 := bm.cell 0
                    have m1 := bm.cell 1
                    have mf1 := bm.frozen 1
                    have ml := bm.lt
                    simp at m0 m1
                    have HG5 : Hid (Gth VT.text K (k + 1) R ((xs ++ [x]).map VT.norm)) := by
                      show Gth _ _ _ _ _
                      rw [List.map_append, List.map_singleton]
                      exact HG.out.add HApK.out.rK (by rw [HRR.out]; exact HApK.out.rR) HKey.out (by rw [HRR.out]; exact (jS_mem HApK.out.hs (nS_rise HDo.out.set) HDo.out.gone _).2 (.inr ⟨⟨HUi.out.2.1, fun g hg e => HGm.out (by rw [norm_text, HUi.out.1] at e; rw [← e]; exact hg)⟩, fun b hb e => HAy.out.no rfl (keyIn_norm.1 ⟨b, hb, by rw [e, norm_text]; exact HUi.out.1⟩)⟩)) (by rw [norm_text]; exact HUi.out.1)
                    clear ho5 hg5 hn5 bm
                    go_wp2
                    go_roundw
                    case rel => exact ⟨k + 1, _, _, by omega, by go_num, HA5.out, by rw [List.length_append, List.length_singleton]; omega, HG5.out, HGo5.out⟩
                    case measure => simp [intOf]; omega
                | false =>
                  have HGo5 : Hid (∀ g ∈ K.take (k + 1), g ∈ d.gone.toL → keyIn s.toL g) := by
                    intro g hg hg2
                    rw [take_snoc HKey.out] at hg
                    rcases List.mem_append.1 hg with hg | hg
                    · exact HGo.out g hg hg2
                    · rw [List.mem_singleton] at hg; subst hg; exact (HGm.out hg2).elim
                  cases set_ with
                  | true =>
                    have bo := HA.out.box
                    have o0 := bo.cell 0
                    have o1 := bo.cell 1
                    have ol := bo.lt
                    simp at o0 o1
                    clear bo
                    have bu := HBy.out
                    have u0 := bu.cell 0
                    have u1 := bu.cell 1
                    have ul := bu.lt
                    simp at u0 u1
                    clear bu
                    have HUi := hid (HAy.out.yes rfl)
                    go_wp2_with (at_builtin; refine wpList_app rfl (.tmp 80) (.tmp 82) 22 62 i0 _ 2 40 HKd.out rfl W3.heap.size (.slice po xs.length co) xs.length _ rfl (World.ownsRow.alloc HA.out.own.own _) ⟨X3.heap.size, 0, none⟩ 1 1 [.string y.text, .slice y.p y.n y.c] rfl rfl (newsC X3 _ _) (oneC _ _ _ _) (by omega) (by omega) (by have := HA.out.but.size; simp; omega) ?_)
                    intro v5 w5 ho5 hg5 hn5
                    obtain ⟨p5, c5, rfl⟩ := ownsRow_slice ho5
                    have HA5 : Hid (ApI W3 (w5.setCell ⟨O, 1, none⟩ (.slice p5 (xs.length + 1) c5)) O d.num (.slice p5 (xs.length + 1) c5) (xs ++ [y])) := HA.out.step (HUi.out.2.2.mono fun b hb hl => ⟨by have := HA0.out; have := hb.1; have := HW1.out.size; omega, fun e => by have := HA00.out b e; have := hb.1; have := HW1.out.size; omega⟩) ho5 hg5 hn5
                    have bm := HA.out.mid hg5
                    have m0 := bm.cell 0
                    have m1 := bm.cell 1
                    have mf1 := bm.frozen 1
                    have ml := bm.lt
                    simp at m0 m1
                    have HG5 : Hid (Gth VT.text K (k + 1) R ((xs ++ [y]).map VT.norm)) := by
                      show Gth _ _ _ _ _
                      rw [List.map_append, List.map_singleton]
                      exact HG.out.add HApK.out.rK (by rw [HRR.out]; exact HApK.out.rR) HKey.out (by rw [HRR.out]; exact (jS_mem HApK.out.hs (nS_rise HDo.out.set) HDo.out.gone _).2 (.inl HUi.out.2.1)) (by rw [norm_text]; exact HUi.out.1)
                    clear ho5 hg5 hn5 bm
                    go_wp2
                    go_roundw
                    case rel => exact ⟨k + 1, _, _, by omega, by go_num, HA5.out, by rw [List.length_append, List.length_singleton]; omega, HG5.out, HGo5.out⟩
                    case measure => simp [intOf]; omega
                  | false =>
                    exfalso
                    rcases (HApK.out.mK key).1 (List.mem_of_getElem? HKey.out) with h | h | h
                    · exact HAx.out.no rfl h
                    · exact HAy.out.no rfl h
                    · exact HGm.out h
        · obtain rfl : LK = k := by omega
          have HGoA : Hid (∀ g ∈ d.gone.toL, keyIn s.toL g) := fun g hg => HGo.out g (by rw [HLK.out, List.take_length]; exact (HApK.out.mK g).2 (.inr (.inr hg))) hg
          have HEq : Hid (xs.map VT.norm = R) := by
            have h := HG.out
            rw [HLK.out] at h
            show _ = _
            rw [HRR.out] at h ⊢
            exact h.done HApK.out.rR HApK.out.inK
          have HLn : Hid (R.length = xs.length) := by show _ = _; rw [← HEq.out, List.length_map]
          have HEv := hid ((applyE_val HOkS.out HOkD.out).2 HGoA.out)
          rw [← HRR.out, HLn.out] at HEv
          have bo := HA.out.box
          have o0 := bo.cell 0
          have o1 := bo.cell 1
          have ol := bo.lt
          simp at o0 o1
          clear bo a0 a1 al b0 b1 b2 bl
          by_cases h64 : 64 < xs.length
          · have h64' : (64 : Int) < (xs.length : Int) := by omega
            have HR : Hid (applyE sn s d = 111) := by show _ = _; rw [HEv.out, if_pos h64]
            have r0 := HRr.out.cell 0
            have rf0 := HRr.out.frozen 0
            have r1 := HRr.out.cell 1
            have rf1 := HRr.out.frozen 1
            have rl := HRr.out.lt
            simp at r0 r1
            go_wp2
            have hbx : Box ((wr.setCell ⟨w.heap.size + 2, 0, none⟩ (.int .i64 0)).setCell ⟨w.heap.size + 2, 1, none⟩ (.slice none 0 0)) (w.heap.size + 2) #[.int .i64 0, .slice none 0 0] 24 := by simpa using (HRr.out.set 0 (.int .i64 0)).set 1 (.slice none 0 0)
            have hbt : But (fun x => x = w.heap.size + 2) wr ((wr.setCell ⟨w.heap.size + 2, 0, none⟩ (.int .i64 0)).setCell ⟨w.heap.size + 2, 1, none⟩ (.slice none 0 0)) := ((But.one _ _).setAt 0 _).setAt 1 _
            have g0 := hbx.cell 0
            have g1 := hbx.cell 1
            simp at g0 g1
            exact bodyPost_ret (v := .tuple #[.agg #[.int .i64 0, .slice none 0 0], .int .i64 (111)]) (by simp [results, Try.results24, go_sem, g0, g1]) rfl ⟨0, ⟨none, 0, 0, fun _ => zC⟩, by rw [HR.out]; try rfl, LT.In.none_ _ _ _ none 0 _ (Nat.zero_le _) (fun _ => rfl), fun h => (by rw [HR.out] at h; exact (by omega : False).elim), fun _ => ⟨rfl, rfl⟩, HBr.out.trans (hbt.below HBr.out.size (fun q hq => by omega))⟩
          · have h64' : ¬ (64 : Int) < (xs.length : Int) := by omega
            have HR : Hid (applyE sn s d = 0) := by show _ = _; rw [HEv.out, if_neg h64]
            have r0 := HRr.out.cell 0
            have rf0 := HRr.out.frozen 0
            have r1 := HRr.out.cell 1
            have rf1 := HRr.out.frozen 1
            have rl := HRr.out.lt
            simp at r0 r1
            obtain ⟨pv, cv, ev, hvin⟩ := HA.out.own.in_ (by omega)
            cases ev
            have HVin := hid hvin
            clear hvin
            go_wp2
            have hbx : Box ((wr.setCell ⟨w.heap.size + 2, 0, none⟩ (.int .i64 d.num)).setCell ⟨w.heap.size + 2, 1, none⟩ (.slice po xs.length co)) (w.heap.size + 2) #[.int .i64 d.num, .slice po xs.length co] 24 := by simpa using (HRr.out.set 0 (.int .i64 d.num)).set 1 (.slice po xs.length co)
            have hbt : But (fun x => x = w.heap.size + 2) wr ((wr.setCell ⟨w.heap.size + 2, 0, none⟩ (.int .i64 d.num)).setCell ⟨w.heap.size + 2, 1, none⟩ (.slice po xs.length co)) := ((But.one _ _).setAt 0 _).setAt 1 _
            have g0 := hbx.cell 0
            have g1 := hbx.cell 1
            simp at g0 g1
            have hO := HO.out
            refine bodyPost_ret (v := .tuple #[.agg #[.int .i64 d.num, .slice po xs.length co], .int .i64 0]) (by simp [results, Try.results24, go_sem, g0, g1]) rfl ⟨d.num, ⟨po, xs.length, co, fun j => xs.getD j zC⟩, by rw [HR.out]; rfl, ?_, fun _ => ⟨rfl, ⟨?_⟩⟩, fun h => (h HR.out).elim, HBr.out.trans (hbt.below HBr.out.size (fun q hq => by omega))⟩
            · exact (HVin.out.but hbt (fun b hb _ e => by omega)).mono fun b hb _ => by omega
            · rw [getD_nl, HEq.out, HRR.out]
end Go.Proofs.Ytpknlbibijheaaa
