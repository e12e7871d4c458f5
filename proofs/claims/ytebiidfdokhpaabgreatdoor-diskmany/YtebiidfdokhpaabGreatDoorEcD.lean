import Derived.Test.YtebiidfdokhpaabGreatDoorPack13
namespace Go.Proofs.YtebiidfdokhpaabGreatDoor
open Go.RowKit
set_option maxRecDepth 8000
def lessN (a b : ByteArray) : Bool := Op.bytesLess a.toList b.toList
/-- a file laid at its place -/
def insR (f : RO) : List RO → List RO
  | [] => [f]
  | a :: l => if lessN f.name a.name = true then f :: a :: l else a :: insR f l
theorem insR_done (f a : RO) : ∀ l : List RO, (∃ x ∈ l, lessN f.name x.name = true) → insR f (l ++ [a]) = insR f l ++ [a]
  | [], h => by obtain ⟨x, hx, _⟩ := h; cases hx
  | b :: l, h => by
    by_cases hb : lessN f.name b.name = true
    · simp [insR, hb]
    · simp only [List.cons_append, insR, if_neg hb]
      have ih := insR_done f a l (by
        obtain ⟨x, hx, hl⟩ := h
        rcases List.mem_cons.1 hx with rfl | hx
        · exact absurd hl hb
        · exact ⟨x, hx, hl⟩)
      rw [ih]
theorem insR_last (f a : RO) (ha : lessN f.name a.name = true) : ∀ l : List RO, (∀ x ∈ l, lessN f.name x.name = false) → insR f (l ++ [a]) = l ++ [f, a]
  | [], _ => by simp [insR, ha]
  | b :: l, h => by
    have hb : ¬ lessN f.name b.name = true := by rw [h b (by simp)]; simp
    simp only [List.cons_append, insR, if_neg hb]
    rw [insR_last f a ha l fun x hx => h x (List.mem_cons_of_mem _ hx)]
theorem insR_none (f : RO) : ∀ l : List RO, (∀ x ∈ l, lessN f.name x.name = false) → insR f l = l ++ [f]
  | [], _ => rfl
  | b :: l, h => by
    have hb : ¬ lessN f.name b.name = true := by rw [h b (by simp)]; simp
    simp only [List.cons_append, insR, if_neg hb]
    rw [insR_none f l fun x hx => h x (List.mem_cons_of_mem _ hx)]
theorem insR_len (f : RO) : ∀ l : List RO, (insR f l).length = l.length + 1
  | [] => rfl
  | b :: l => by
    simp only [insR]
    split
    · simp
    · simp [insR_len f l]
theorem insR_mem (f : RO) : ∀ (l : List RO) (x : RO), x ∈ insR f l → x = f ∨ x ∈ l
  | [], x, h => .inl (by simpa [insR] using h)
  | b :: l, x, h => by
    simp only [insR] at h
    split at h
    · rcases List.mem_cons.1 h with h | h
      · exact .inl h
      · exact .inr h
    · rcases List.mem_cons.1 h with h | h
      · exact .inr (by rw [h]; simp)
      · rcases insR_mem f l x h with h | h
        · exact .inl h
        · exact .inr (List.mem_cons_of_mem _ h)
def LT.lst (A : LT RO) (i : Nat) : List RO := (List.range i).map A.item
theorem lst_succ (A : LT RO) (i : Nat) : A.lst (i + 1) = A.lst i ++ [A.item i] := by simp [LT.lst, List.range_succ]
/-- what is laid down behind i files -/
def putL (A : LT RO) (f : RO) (i : Nat) (dn : Bool) : List RO := if dn = true then insR f (A.lst i) else A.lst i
/-- has the file been laid already? -/
def putB (A : LT RO) (f : RO) (i : Nat) : Bool := (A.lst i).any fun x => lessN f.name x.name
def lOf {α : Type} (p : Option Addr) (c : Nat) (z : α) (xs : List α) : LT α := ⟨p, xs.length, c, fun j => xs.getD j z⟩
theorem flat_getL {α : Type} (E : El α) : ∀ (xs : List α) (j r : Nat) (z : α), j < xs.length → r < E.size → (xs.flatMap E.cells)[j * E.size + r]? = (E.cells (xs.getD j z))[r]? := by
  intro xs
  induction xs with
  | nil => intro j r z h; simp at h
  | cons x xs ih =>
    intro j r z h hr
    rw [List.flatMap_cons]
    cases j with
    | zero =>
      rw [List.getElem?_append_left (by rw [E.len]; omega)]
      simp
    | succ j =>
      rw [List.getElem?_append_right (by rw [E.len, Nat.add_mul]; omega), E.len]
      have := ih j r z (by simpa using h) hr
      rw [show (j + 1) * E.size + r - E.size = j * E.size + r by rw [Nat.add_mul]; omega, this]
      simp
theorem own_lt {α : Type} {E : El α} {W : World} {base : Nat} {p : Option Addr} {c : Nat} {xs : List α} {Q : Nat → Prop} (z : α) (h : W.ownsRow base E.ty E.size (.slice p xs.length c) xs.length (xs.flatMap E.cells)) (hQ : ∀ k, base ≤ k → Q k) (hx : ∀ x ∈ xs, E.In W Q x) (hn : xs.length ≤ 140737488355328) : LT.In E W Q (lOf p c z xs) := by
  have hlt := h.lt
  have hcells := fun g hg => h.cells (g := g) hg
  have hmem : ∀ j, j < xs.length → xs.getD j z ∈ xs := fun j hj => by rw [List.getD_eq_getElem?_getD, List.getElem?_eq_getElem hj]; exact List.getElem_mem hj
  obtain ⟨_, ⟨hv, h0⟩ | ⟨g, cap, cur, hv, hbg, hh, hnc, hcm, _⟩⟩ := h
  · simp only [Value.slice.injEq] at hv
    obtain ⟨rfl, _, rfl⟩ := hv
    exact ⟨fun h => absurd h (by show ¬ 0 < xs.length; omega), fun j hj => hx _ (hmem j hj), by show xs.length ≤ 0; omega, hn, by show 0 ≤ maxLen; omega, fun _ => ⟨h0, rfl⟩⟩
  · simp only [Value.slice.injEq] at hv
    obtain ⟨rfl, _, rfl⟩ := hv
    refine ⟨fun _ => ⟨g, 0, rfl, hQ g hbg, (hlt g rfl).2, fun j hj r u hu => ?_⟩, fun j hj => hx _ (hmem j hj), hnc, hn, hcm, fun h => by cases h⟩
    have hr : r < E.size := by
      rcases Nat.lt_or_ge r E.size with h | h
      · exact h
      · rw [List.getElem?_eq_none (by rw [E.len]; exact h)] at hu; cases hu
    have := hcells g rfl (j * E.size + r) u ((flat_getL E xs j r z hj hr).trans hu)
    rw [Go.WideShapes.add_plain] at this
    rw [show 0 + j * E.size + r = 0 + (j * E.size + r) by omega]
    exact this
theorem putL_len (A : LT RO) (f : RO) (i : Nat) (dn : Bool) : (putL A f i dn).length ≤ i + 1 := by
  unfold putL
  split
  · rw [insR_len]; simp [LT.lst]
  · simp [LT.lst]
/-- behind Put -/
def PutQ (A : LT RO) (f : RO) (w : World) (b0 rb : Nat) (dn0 : Bool) (x2 x3 x4 : Int) (w' : World) : Prop :=
  ∃ (p : Option Addr) (c : Nat), Box w' rb #[.slice p (A.n + 1) c, .bool dn0, .int .i64 x2, .int .i64 x3, .int .i64 x4] 75 ∧ LT.In elO w' (fun k => b0 ≤ k ∧ k ≠ rb) (lOf p c f (insR f (A.lst A.n))) ∧ But (fun k => k = rb) w w'
set_option maxHeartbeats 8000000 in
theorem rput_any (A : LT RO) (f : RO) (w : World) (b0 rb : Nat) (dn0 : Bool) (x2 x3 x4 : Int) (hr : Box w rb #[.slice A.p A.n A.c, .bool dn0, .int .i64 x2, .int .i64 x3, .int .i64 x4] 75) (hA : LT.In elO w (fun k => b0 ≤ k ∧ k ≠ rb) A) (hf : elO.In w (fun k => b0 ≤ k ∧ k ≠ rb) f) (hb0 : b0 ≤ w.heap.size) (hn : A.n ≤ 100000) :
    Calls Tryz.prog 30 #[.pointer (some ⟨rb, 0, none⟩), .agg #[.string f.name, .slice f.sp f.sn f.sc, .slice f.lp f.ln f.lc]] w fun e w' => e = .returned (.tuple #[]) ∧ PutQ A f w b0 rb dn0 x2 x3 x4 w' := by
  obtain ⟨i0, Kd⟩ := kindO
  have HKd := hid Kd
  have hrl := hr.lt
  obtain ⟨w1, hw1⟩ : ∃ V, V = w.alloc (.cells #[.string f.name, .slice f.sp f.sn f.sc, .slice f.lp f.ln f.lc] 77) := ⟨_, rfl⟩
  have HB1 : Hid (Below w.heap.size w w1) := by show Below _ _ _; rw [hw1]; exact (Below.refl _ _).alloc (Nat.le_refl _) _
  have HF1 : Hid (Box w1 w.heap.size #[.string f.name, .slice f.sp f.sn f.sc, .slice f.lp f.ln f.lc] 77) := by show Box _ _ _ _; rw [hw1]; exact Box.new _ _ _
  have HS1 : Hid (w1.heap.size = w.heap.size + 1) := by show w1.heap.size = _; rw [hw1]; simp
  have HR1 : Hid (Box w1 rb #[.slice A.p A.n A.c, .bool dn0, .int .i64 x2, .int .i64 x3, .int .i64 x4] 75) := hr.below HB1.out
  have HA1 := hid (hA.below HB1.out)
  have HFi := hid (elO.kept hf HB1.out.size fun k _ hl => HB1.out.block k hl)
  have HW1 := hid hw1
  clear hr hA hf Kd hw1
  go_enter Tryz.func30, Tryz.ntmps30
  go_upto_region 1 with fail
  rw [← HW1.out]
  go_wp2_with fail
  go_loopw [4, 5, 6] (fun v d x wr => ∃ (i : Nat) (p : Option Addr) (c : Nat), i ≤ A.n ∧ x = .int .i64 (i : Int) ∧ d = .bool (putB A f i) ∧ v = .slice p (putL A f i (putB A f i)).length c ∧ wr.ownsRow w1.heap.size 77 3 v (putL A f i (putB A f i)).length ((putL A f i (putB A f i)).flatMap elO.cells) ∧ Below w1.heap.size w1 wr) (fun _ _ x _ => A.n - (intOf x).toNat)
  case atStart => exact ⟨0, none, 0, Nat.zero_le _, rfl, rfl, rfl, World.ownsRow_nil _ _ _ _, Below.refl _ _⟩
  case round =>
    obtain ⟨i, p, c, hi, rfl, rfl, rfl, hO, hbw⟩ := hrel
    have HO := hid hO
    have HBw := hid hbw
    have HLn : Hid ((putL A f i (putB A f i)).length ≤ i + 1) := putL_len A f i _
    clear hO hbw
    have HRr := hid (HR1.out.below HBw.out)
    have HFr := hid (HF1.out.below HBw.out)
    have r0 := HRr.out.cell 0
    have r1 := HRr.out.cell 1
    have r2 := HRr.out.cell 2
    have r3 := HRr.out.cell 3
    have r4 := HRr.out.cell 4
    have rl := HRr.out.lt
    simp at r0 r1 r2 r3 r4
    have f0 := HFr.out.cell 0
    have f1 := HFr.out.cell 1
    have f2 := HFr.out.cell 2
    have fl := HFr.out.lt
    simp at f0 f1 f2
    by_cases hlt : i < A.n
    · have hlt' : (i : Int) < (A.n : Int) := by omega
      obtain ⟨bb, o, hp, _, hbb, hat⟩ := HA1.out.at_ (by omega)
      have HAT := hid hat
      rw [hp] at r0
      have hce : ∀ q u, (elO.cells (A.item i))[q]? = some u → wr.cell? ⟨bb, o + i * 3 + q, none⟩ = some u := fun q u hu => (World.cell?_of_block (a := ⟨bb, o + i * 3 + q, none⟩) (HBw.out.block bb hbb)).trans (hat i hlt q u hu)
      have a0 : wr.cell? ⟨bb, o + i * 3, none⟩ = some (.string (A.item i).name) := hce 0 _ rfl
      have a1 : wr.cell? ⟨bb, o + i * 3 + 1, none⟩ = some (.slice (A.item i).sp (A.item i).sn (A.item i).sc) := hce 1 _ rfl
      have a2 : wr.cell? ⟨bb, o + i * 3 + 2, none⟩ = some (.slice (A.item i).lp (A.item i).ln (A.item i).lc) := hce 2 _ rfl
      clear hce hat
      cases hB : putB A f i with
      | true =>
        rw [hB] at HO HLn
        have HN : Hid (putB A f (i + 1) = true ∧ putL A f (i + 1) true = putL A f i true ++ [A.item i]) := by
          obtain ⟨x, hx, hl⟩ := List.any_eq_true.1 hB
          refine ⟨List.any_eq_true.2 ⟨x, by rw [lst_succ]; exact List.mem_append_left _ hx, hl⟩, ?_⟩
          simp only [putL, if_true, lst_succ]
          exact insR_done f _ _ ⟨x, hx, hl⟩
        go_upto_region 6 with fail
        refine wp_region_calmE 30 (fun wx => Below wr.heap.size wr wx) [(0, true), (1, true), (2, true), (3, true), (4, false), (5, true), (6, true), (7, true), (8, false), (9, true), (10, true), (11, true), (12, false), (13, true), (14, true)] .done (by kernel_rfl) (by kernel_rfl) (Below.refl _ _).drew ?_
        refine wpPre_e rfl rfl (fun K1 hK1 => ?_)
        apply Exists.intro
        refine And.intro (fun wx hx => ?_) ?_
        · go_simp
          try rfl
        go_simp
        refine hK1 _ ?_
        clear hK1 K1
        refine wpPre_e rfl rfl (fun K1 hK1 => ?_)
        apply Exists.intro
        refine And.intro (fun wx hx => ?_) ?_
        · go_simp
          try rfl
        go_simp
        refine hK1 _ ?_
        clear hK1 K1
        refine wpPre_e rfl rfl (fun K1 hK1 => ?_)
        apply Exists.intro
        refine And.intro (fun wx hx => ?_) ?_
        · go_simp
          try rfl
        go_simp
        refine hK1 _ ?_
        clear hK1 K1
        refine wpPre_i rfl (fun K1 hK1 => ?_)
        rw [if_neg (by go_simp; all_goals (intro h; cases h))]
        go_simp
        refine hK1 _ ?_
        clear hK1 K1
        refine wpPre_i rfl (fun K1 hK1 => ?_)
        rw [if_neg (by go_simp; all_goals (intro h; cases h))]
        go_simp
        refine hK1 _ ?_
        clear hK1 K1
        refine wpPre_i rfl (fun K1 hK1 => ?_)
        rw [if_neg (by go_simp; all_goals (intro h; cases h))]
        go_simp
        refine hK1 _ ?_
        clear hK1 K1
        refine wpPre_i rfl (fun K1 hK1 => ?_)
        rw [if_neg (by go_simp; all_goals (intro h; cases h))]
        go_simp
        refine hK1 _ ?_
        clear hK1 K1
        refine wpPre_i rfl (fun K1 hK1 => ?_)
        rw [if_neg (by go_simp; all_goals (intro h; cases h))]
        go_simp
        refine hK1 _ ?_
        clear hK1 K1
        refine wpPre_i rfl (fun K1 hK1 => ?_)
        rw [if_neg (by go_simp; all_goals (intro h; cases h))]
        go_simp
        refine hK1 _ ?_
        clear hK1 K1
        refine wpPre_i rfl (fun K1 hK1 => ?_)
        rw [if_neg (by go_simp; all_goals (intro h; cases h))]
        go_simp
        refine hK1 _ ?_
        clear hK1 K1
        refine wpPre_i rfl (fun K1 hK1 => ?_)
        rw [if_neg (by go_simp; all_goals (intro h; cases h))]
        go_simp
        refine hK1 _ ?_
        clear hK1 K1
        refine wpPre_i rfl (fun K1 hK1 => ?_)
        rw [if_neg (by go_simp; all_goals (intro h; cases h))]
        go_simp
        refine hK1 _ ?_
        clear hK1 K1
        refine wpPre_i rfl (fun K1 hK1 => ?_)
        rw [if_neg (by go_simp; all_goals (intro h; cases h))]
        go_simp
        refine hK1 _ ?_
        clear hK1 K1
        refine wpPre_i rfl (fun K1 hK1 => ?_)
        rw [if_neg (by go_simp; all_goals (intro h; cases h))]
        go_simp
        refine hK1 _ ?_
        clear hK1 K1
        refine wpPre_e rfl rfl (fun K1 hK1 => ?_)
        apply Exists.intro
        refine And.intro (fun wx hx => ?_) ?_
        · go_simp
          try rfl
        go_simp
        refine hK1 _ ?_
        clear hK1 K1
        refine wpPre_nil ?_
        refine wpTr_done ?_
        obtain ⟨wq, hwq⟩ : ∃ V, V = wr.drew := ⟨_, rfl⟩
        rw [← hwq]
        have HOq : Hid (wq.ownsRow w1.heap.size 77 3 (.slice p (putL A f i true).length c) (putL A f i true).length ((putL A f i true).flatMap elO.cells)) := by show World.ownsRow _ _ _ _ _ _ _; rw [hwq]; exact HO.out
        have HBq : Hid (Below w1.heap.size w1 wq) := by show Below _ _ _; rw [hwq]; exact HBw.out.drew
        have HRq : Hid (Box wq rb #[.slice A.p A.n A.c, .bool dn0, .int .i64 x2, .int .i64 x3, .int .i64 x4] 75) := by show Box _ _ _ _; rw [hwq]; exact HRr.out
        have HFq : Hid (Box wq w.heap.size #[.string f.name, .slice f.sp f.sn f.sc, .slice f.lp f.ln f.lc] 77) := by show Box _ _ _ _; rw [hwq]; exact HFr.out
        have b0' : wq.cell? ⟨bb, o + i * 3, none⟩ = some (.string (A.item i).name) := by rw [hwq]; exact a0
        have b1' : wq.cell? ⟨bb, o + i * 3 + 1, none⟩ = some (.slice (A.item i).sp (A.item i).sn (A.item i).sc) := by rw [hwq]; exact a1
        have b2' : wq.cell? ⟨bb, o + i * 3 + 2, none⟩ = some (.slice (A.item i).lp (A.item i).ln (A.item i).lc) := by rw [hwq]; exact a2
        have HHat : Hid (∀ q u, (elO.cells (A.item i))[q]? = some u → w1.cell? ⟨bb, o + i * 3 + q, none⟩ = some u) := fun q u hu => HAT.out i hlt q u hu
        clear a0 a1 a2 r0 r1 r2 r3 r4 rl f0 f1 f2 fl hwq
        have r0 := HRq.out.cell 0
        have rl := HRq.out.lt
        simp at r0
        rw [hp] at r0
        have f0 := HFq.out.cell 0
        have f1 := HFq.out.cell 1
        have f2 := HFq.out.cell 2
        have fl := HFq.out.lt
        simp at f0 f1 f2
        go_upto_region 9 with fail
        have hnw : ∀ j u', (elO.cells (A.item i))[j]? = some u' → (wq.alloc (.cells #[.string (A.item i).name, .slice (A.item i).sp (A.item i).sn (A.item i).sc, .slice (A.item i).lp (A.item i).ln (A.item i).lc] 77)).cell? ((⟨wq.heap.size, 0, none⟩ : Addr).add j) = some u' := fun j u' hu => by
          rw [Go.WideShapes.add_plain, (Box.new wq #[.string (A.item i).name, .slice (A.item i).sp (A.item i).sn (A.item i).sc, .slice (A.item i).lp (A.item i).ln (A.item i).lc] 77).cell]
          rw [show 0 + j = j by omega]
          simpa [elO] using hu
        have hszq := HBq.out.size
        have hown2 := HOq.out.alloc (.cells #[.string (A.item i).name, .slice (A.item i).sp (A.item i).sn (A.item i).sc, .slice (A.item i).lp (A.item i).ln (A.item i).lc] 77)
        go_wp2_with (at_builtin; refine wpList_app rfl (.tmp 35) (.tmp 43) 73 77 i0 _ 3 64 HKd.out rfl w1.heap.size (.slice p (putL A f i true).length c) (putL A f i true).length _ rfl hown2 ⟨wq.heap.size, 0, none⟩ 1 1 (elO.cells (A.item i)) rfl rfl hnw (elO.one _) (by have := HLn.out; omega) (by have := HLn.out; omega) (by simp; omega) ?_)
        intro vn1 wn1 hon hgn hnn2
        have HOn1 : Hid (wn1.ownsRow w1.heap.size 77 3 vn1 (putL A f i true ++ [(A.item i)]).length ((putL A f i true ++ [(A.item i)]).flatMap elO.cells)) := by
          show World.ownsRow _ _ _ _ _ _ _
          simpa using hon
        have HBn1 : Hid (Below w1.heap.size w1 wn1) := (HBq.out.trans (((Below.refl _ _).alloc (Nat.le_refl _) _).mono HBq.out.size)).grown hgn (by simp; omega) (fun g hg => (hown2.lt g (by first | exact hg | (simpa using hg))).1)
        obtain ⟨pn1, cn1, hvn⟩ := ownsRow_slice HOn1.out
        subst hvn
        clear hon hgn hnn2 hnw hown2 hszq
        go_wp2
        go_roundw
        case rel => exact ⟨i + 1, pn1, cn1, by omega, by go_num, by rw [HN.out.1], by rw [HN.out.1, HN.out.2], by rw [HN.out.1, HN.out.2]; exact HOn1.out, HBn1.out⟩
        case measure => simp [intOf]; omega
      | false =>
        rw [hB] at HO HLn
        have HNo : Hid (∀ x ∈ A.lst i, lessN f.name x.name = false) := fun x hx => by
          have := List.any_eq_false.1 hB x hx
          simpa using this
        cases hl : lessN f.name (A.item i).name with
        | true =>
          have hl' : Op.bytesLess f.name.toList (A.item i).name.toList = true := hl
          have HN : Hid (putB A f (i + 1) = true ∧ putL A f (i + 1) true = (putL A f i false ++ [f]) ++ [A.item i]) := by
            refine ⟨List.any_eq_true.2 ⟨A.item i, by rw [lst_succ]; simp, hl⟩, ?_⟩
            simp only [putL, if_true, lst_succ, Bool.false_eq_true, if_false]
            rw [insR_last f _ hl _ HNo.out]
            simp
          go_upto_region 6 with fail
          refine wp_region_calmE 30 (fun wx => Below wr.heap.size wr wx) [(0, true), (1, true), (2, true), (3, true), (4, false), (5, true), (6, true), (7, true), (8, false), (9, true), (10, true), (11, true), (12, false), (13, true), (14, true)] .done (by kernel_rfl) (by kernel_rfl) (Below.refl _ _).drew ?_
          refine wpPre_e rfl rfl (fun K1 hK1 => ?_)
          apply Exists.intro
          refine And.intro (fun wx hx => ?_) ?_
          · go_simp
            try rfl
          go_simp
          refine hK1 _ ?_
          clear hK1 K1
          refine wpPre_e rfl rfl (fun K1 hK1 => ?_)
          apply Exists.intro
          refine And.intro (fun wx hx => ?_) ?_
          · go_simp
            try rfl
          go_simp
          refine hK1 _ ?_
          clear hK1 K1
          refine wpPre_e rfl rfl (fun K1 hK1 => ?_)
          apply Exists.intro
          refine And.intro (fun wx hx => ?_) ?_
          · go_simp
            try rfl
          go_simp
          refine hK1 _ ?_
          clear hK1 K1
          refine wpPre_i rfl (fun K1 hK1 => ?_)
          rw [if_pos (by go_simp)]
          apply Exists.intro
          refine And.intro (fun wx hx => ?_) ?_
          · go_simp
            try rfl
          go_simp
          refine hK1 _ ?_
          clear hK1 K1
          refine wpPre_i rfl (fun K1 hK1 => ?_)
          rw [if_pos (by go_simp)]
          apply Exists.intro
          refine And.intro (fun wx hx => ?_) ?_
          · have e0 := below_fact hx rfl f0
            go_simp
            try rfl
          go_simp
          refine hK1 _ ?_
          clear hK1 K1
          refine wpPre_i rfl (fun K1 hK1 => ?_)
          rw [if_pos (by go_simp)]
          apply Exists.intro
          refine And.intro (fun wx hx => ?_) ?_
          · go_simp
            try rfl
          go_simp
          refine hK1 _ ?_
          clear hK1 K1
          refine wpPre_i rfl (fun K1 hK1 => ?_)
          rw [if_pos (by go_simp)]
          apply Exists.intro
          refine And.intro (fun wx hx => ?_) ?_
          · go_simp
            try rfl
          go_simp
          refine hK1 _ ?_
          clear hK1 K1
          refine wpPre_i rfl (fun K1 hK1 => ?_)
          rw [if_pos (by go_simp)]
          apply Exists.intro
          refine And.intro (fun wx hx => ?_) ?_
          · go_simp
            try rfl
          go_simp
          refine hK1 _ ?_
          clear hK1 K1
          refine wpPre_i rfl (fun K1 hK1 => ?_)
          rw [if_pos (by go_simp)]
          apply Exists.intro
          refine And.intro (fun wx hx => ?_) ?_
          · have e0 := below_fact hx rfl r0
            go_simp
            try rfl
          go_simp
          refine hK1 _ ?_
          clear hK1 K1
          refine wpPre_i rfl (fun K1 hK1 => ?_)
          rw [if_pos (by go_simp)]
          apply Exists.intro
          refine And.intro (fun wx hx => ?_) ?_
          · go_simp
            try rfl
          go_simp
          refine hK1 _ ?_
          clear hK1 K1
          refine wpPre_i rfl (fun K1 hK1 => ?_)
          rw [if_pos (by go_simp)]
          apply Exists.intro
          refine And.intro (fun wx hx => ?_) ?_
          · go_simp
            try rfl
          go_simp
          refine hK1 _ ?_
          clear hK1 K1
          refine wpPre_i rfl (fun K1 hK1 => ?_)
          rw [if_pos (by go_simp)]
          apply Exists.intro
          refine And.intro (fun wx hx => ?_) ?_
          · go_simp
            try rfl
          go_simp
          refine hK1 _ ?_
          clear hK1 K1
          refine wpPre_i rfl (fun K1 hK1 => ?_)
          rw [if_pos (by go_simp)]
          apply Exists.intro
          refine And.intro (fun wx hx => ?_) ?_
          · have e0 := below_fact hx rfl a0
            go_simp
            try rfl
          go_simp
          refine hK1 _ ?_
          clear hK1 K1
          refine wpPre_i rfl (fun K1 hK1 => ?_)
          rw [if_pos (by go_simp)]
          apply Exists.intro
          refine And.intro (fun wx hx => ?_) ?_
          · go_simp
            try rfl
          go_simp
          refine hK1 _ ?_
          clear hK1 K1
          refine wpPre_e rfl rfl (fun K1 hK1 => ?_)
          apply Exists.intro
          refine And.intro (fun wx hx => ?_) ?_
          · go_simp
            try rfl
          go_simp
          refine hK1 _ ?_
          clear hK1 K1
          refine wpPre_nil ?_
          refine wpTr_done ?_
          obtain ⟨wq, hwq⟩ : ∃ V, V = wr.drew := ⟨_, rfl⟩
          rw [← hwq]
          have HOq : Hid (wq.ownsRow w1.heap.size 77 3 (.slice p (putL A f i false).length c) (putL A f i false).length ((putL A f i false).flatMap elO.cells)) := by show World.ownsRow _ _ _ _ _ _ _; rw [hwq]; exact HO.out
          have HBq : Hid (Below w1.heap.size w1 wq) := by show Below _ _ _; rw [hwq]; exact HBw.out.drew
          have HRq : Hid (Box wq rb #[.slice A.p A.n A.c, .bool dn0, .int .i64 x2, .int .i64 x3, .int .i64 x4] 75) := by show Box _ _ _ _; rw [hwq]; exact HRr.out
          have HFq : Hid (Box wq w.heap.size #[.string f.name, .slice f.sp f.sn f.sc, .slice f.lp f.ln f.lc] 77) := by show Box _ _ _ _; rw [hwq]; exact HFr.out
          have b0' : wq.cell? ⟨bb, o + i * 3, none⟩ = some (.string (A.item i).name) := by rw [hwq]; exact a0
          have b1' : wq.cell? ⟨bb, o + i * 3 + 1, none⟩ = some (.slice (A.item i).sp (A.item i).sn (A.item i).sc) := by rw [hwq]; exact a1
          have b2' : wq.cell? ⟨bb, o + i * 3 + 2, none⟩ = some (.slice (A.item i).lp (A.item i).ln (A.item i).lc) := by rw [hwq]; exact a2
          have HHat : Hid (∀ q u, (elO.cells (A.item i))[q]? = some u → w1.cell? ⟨bb, o + i * 3 + q, none⟩ = some u) := fun q u hu => HAT.out i hlt q u hu
          clear a0 a1 a2 r0 r1 r2 r3 r4 rl f0 f1 f2 fl hwq
          have r0 := HRq.out.cell 0
          have rl := HRq.out.lt
          simp at r0
          rw [hp] at r0
          have f0 := HFq.out.cell 0
          have f1 := HFq.out.cell 1
          have f2 := HFq.out.cell 2
          have fl := HFq.out.lt
          simp at f0 f1 f2
          go_upto_region 7 with fail
          have hnw : ∀ j u', (elO.cells f)[j]? = some u' → (wq.alloc (.cells #[.string f.name, .slice f.sp f.sn f.sc, .slice f.lp f.ln f.lc] 77)).cell? ((⟨wq.heap.size, 0, none⟩ : Addr).add j) = some u' := fun j u' hu => by
            rw [Go.WideShapes.add_plain, (Box.new wq #[.string f.name, .slice f.sp f.sn f.sc, .slice f.lp f.ln f.lc] 77).cell]
            rw [show 0 + j = j by omega]
            simpa [elO] using hu
          have hszq := HBq.out.size
          have hown2 := HOq.out.alloc (.cells #[.string f.name, .slice f.sp f.sn f.sc, .slice f.lp f.ln f.lc] 77)
          go_wp2_with (at_builtin; refine wpList_app rfl (.tmp 31) (.tmp 33) 73 77 i0 _ 3 64 HKd.out rfl w1.heap.size (.slice p (putL A f i false).length c) (putL A f i false).length _ rfl hown2 ⟨wq.heap.size, 0, none⟩ 1 1 (elO.cells f) rfl rfl hnw (elO.one _) (by have := HLn.out; omega) (by have := HLn.out; omega) (by simp; omega) ?_)
          intro vn1 wn1 hon hgn hnn2
          have HOn1 : Hid (wn1.ownsRow w1.heap.size 77 3 vn1 (putL A f i false ++ [f]).length ((putL A f i false ++ [f]).flatMap elO.cells)) := by
            show World.ownsRow _ _ _ _ _ _ _
            simpa using hon
          have HBn1 : Hid (Below w1.heap.size w1 wn1) := (HBq.out.trans (((Below.refl _ _).alloc (Nat.le_refl _) _).mono HBq.out.size)).grown hgn (by simp; omega) (fun g hg => (hown2.lt g (by first | exact hg | (simpa using hg))).1)
          obtain ⟨pn1, cn1, hvn⟩ := ownsRow_slice HOn1.out
          subst hvn
          clear hon hgn hnn2 hnw hown2 hszq
          clear r0 rl f0 f1 f2 fl b0' b1' b2'
          have c0 : wn1.cell? ⟨bb, o + i * 3, none⟩ = some (.string (A.item i).name) := (World.cell?_of_block (a := ⟨bb, o + i * 3, none⟩) (HBn1.out.block bb hbb)).trans (HHat.out 0 _ rfl)
          have c1 : wn1.cell? ⟨bb, o + i * 3 + 1, none⟩ = some (.slice (A.item i).sp (A.item i).sn (A.item i).sc) := (World.cell?_of_block (a := ⟨bb, o + i * 3 + 1, none⟩) (HBn1.out.block bb hbb)).trans (HHat.out 1 _ rfl)
          have c2 : wn1.cell? ⟨bb, o + i * 3 + 2, none⟩ = some (.slice (A.item i).lp (A.item i).ln (A.item i).lc) := (World.cell?_of_block (a := ⟨bb, o + i * 3 + 2, none⟩) (HBn1.out.block bb hbb)).trans (HHat.out 2 _ rfl)
          have HR1a := hid (HR1.out.below HBn1.out)
          have HF1a := hid (HF1.out.below HBn1.out)
          have r0 := HR1a.out.cell 0
          have rl := HR1a.out.lt
          simp at r0
          rw [hp] at r0
          have f0 := HF1a.out.cell 0
          have f1 := HF1a.out.cell 1
          have f2 := HF1a.out.cell 2
          have fl := HF1a.out.lt
          simp at f0 f1 f2
          have HLn0 := HLn
          have HLn : Hid ((putL A f i false ++ [f]).length ≤ i + 2) := by have := HLn0.out; show _ ≤ _; simp; omega
          go_upto_region 9 with fail
          have hnw : ∀ j u', (elO.cells (A.item i))[j]? = some u' → (wn1.alloc (.cells #[.string (A.item i).name, .slice (A.item i).sp (A.item i).sn (A.item i).sc, .slice (A.item i).lp (A.item i).ln (A.item i).lc] 77)).cell? ((⟨wn1.heap.size, 0, none⟩ : Addr).add j) = some u' := fun j u' hu => by
            rw [Go.WideShapes.add_plain, (Box.new wn1 #[.string (A.item i).name, .slice (A.item i).sp (A.item i).sn (A.item i).sc, .slice (A.item i).lp (A.item i).ln (A.item i).lc] 77).cell]
            rw [show 0 + j = j by omega]
            simpa [elO] using hu
          have hszq := HBn1.out.size
          have hown2 := HOn1.out.alloc (.cells #[.string (A.item i).name, .slice (A.item i).sp (A.item i).sn (A.item i).sc, .slice (A.item i).lp (A.item i).ln (A.item i).lc] 77)
          go_wp2_with (at_builtin; refine wpList_app rfl (.tmp 35) (.tmp 43) 73 77 i0 _ 3 64 HKd.out rfl w1.heap.size (.slice pn1 (putL A f i false ++ [f]).length cn1) ((putL A f i false ++ [f])).length _ rfl hown2 ⟨wn1.heap.size, 0, none⟩ 1 1 (elO.cells (A.item i)) rfl rfl hnw (elO.one _) (by have := HLn.out; omega) (by have := HLn.out; omega) (by simp; omega) ?_)
          intro vn2 wn2 hon hgn hnn2
          have HOn2 : Hid (wn2.ownsRow w1.heap.size 77 3 vn2 ((putL A f i false ++ [f]) ++ [(A.item i)]).length (((putL A f i false ++ [f]) ++ [(A.item i)]).flatMap elO.cells)) := by
            show World.ownsRow _ _ _ _ _ _ _
            simpa using hon
          have HBn2 : Hid (Below w1.heap.size w1 wn2) := (HBn1.out.trans (((Below.refl _ _).alloc (Nat.le_refl _) _).mono HBn1.out.size)).grown hgn (by simp; omega) (fun g hg => (hown2.lt g (by first | exact hg | (simpa using hg))).1)
          obtain ⟨pn2, cn2, hvn⟩ := ownsRow_slice HOn2.out
          subst hvn
          clear hon hgn hnn2 hnw hown2 hszq
          go_wp2
          go_roundw
          case rel => exact ⟨i + 1, pn2, cn2, by omega, by go_num, by rw [HN.out.1], by rw [HN.out.1, HN.out.2], by rw [HN.out.1, HN.out.2]; exact HOn2.out, HBn2.out⟩
          case measure => simp [intOf]; omega
        | false =>
          have hl' : Op.bytesLess f.name.toList (A.item i).name.toList = false := hl
          have HN : Hid (putB A f (i + 1) = false ∧ putL A f (i + 1) false = putL A f i false ++ [A.item i]) := by
            refine ⟨List.any_eq_false.2 fun x hx => ?_, ?_⟩
            · rw [lst_succ] at hx
              rcases List.mem_append.1 hx with hx | hx
              · rw [HNo.out x hx]; simp
              · obtain rfl := List.mem_singleton.1 hx
                rw [hl]; simp
            · simp only [putL, lst_succ, Bool.false_eq_true, if_false]
          go_upto_region 6 with fail
          refine wp_region_calmE 30 (fun wx => Below wr.heap.size wr wx) [(0, true), (1, true), (2, true), (3, true), (4, false), (5, true), (6, true), (7, true), (8, false), (9, true), (10, true), (11, true), (12, false), (13, true), (14, true)] .done (by kernel_rfl) (by kernel_rfl) (Below.refl _ _).drew ?_
          refine wpPre_e rfl rfl (fun K1 hK1 => ?_)
          apply Exists.intro
          refine And.intro (fun wx hx => ?_) ?_
          · go_simp
            try rfl
          go_simp
          refine hK1 _ ?_
          clear hK1 K1
          refine wpPre_e rfl rfl (fun K1 hK1 => ?_)
          apply Exists.intro
          refine And.intro (fun wx hx => ?_) ?_
          · go_simp
            try rfl
          go_simp
          refine hK1 _ ?_
          clear hK1 K1
          refine wpPre_e rfl rfl (fun K1 hK1 => ?_)
          apply Exists.intro
          refine And.intro (fun wx hx => ?_) ?_
          · go_simp
            try rfl
          go_simp
          refine hK1 _ ?_
          clear hK1 K1
          refine wpPre_i rfl (fun K1 hK1 => ?_)
          rw [if_pos (by go_simp)]
          apply Exists.intro
          refine And.intro (fun wx hx => ?_) ?_
          · go_simp
            try rfl
          go_simp
          refine hK1 _ ?_
          clear hK1 K1
          refine wpPre_i rfl (fun K1 hK1 => ?_)
          rw [if_pos (by go_simp)]
          apply Exists.intro
          refine And.intro (fun wx hx => ?_) ?_
          · have e0 := below_fact hx rfl f0
            go_simp
            try rfl
          go_simp
          refine hK1 _ ?_
          clear hK1 K1
          refine wpPre_i rfl (fun K1 hK1 => ?_)
          rw [if_pos (by go_simp)]
          apply Exists.intro
          refine And.intro (fun wx hx => ?_) ?_
          · go_simp
            try rfl
          go_simp
          refine hK1 _ ?_
          clear hK1 K1
          refine wpPre_i rfl (fun K1 hK1 => ?_)
          rw [if_pos (by go_simp)]
          apply Exists.intro
          refine And.intro (fun wx hx => ?_) ?_
          · go_simp
            try rfl
          go_simp
          refine hK1 _ ?_
          clear hK1 K1
          refine wpPre_i rfl (fun K1 hK1 => ?_)
          rw [if_pos (by go_simp)]
          apply Exists.intro
          refine And.intro (fun wx hx => ?_) ?_
          · go_simp
            try rfl
          go_simp
          refine hK1 _ ?_
          clear hK1 K1
          refine wpPre_i rfl (fun K1 hK1 => ?_)
          rw [if_pos (by go_simp)]
          apply Exists.intro
          refine And.intro (fun wx hx => ?_) ?_
          · have e0 := below_fact hx rfl r0
            go_simp
            try rfl
          go_simp
          refine hK1 _ ?_
          clear hK1 K1
          refine wpPre_i rfl (fun K1 hK1 => ?_)
          rw [if_pos (by go_simp)]
          apply Exists.intro
          refine And.intro (fun wx hx => ?_) ?_
          · go_simp
            try rfl
          go_simp
          refine hK1 _ ?_
          clear hK1 K1
          refine wpPre_i rfl (fun K1 hK1 => ?_)
          rw [if_pos (by go_simp)]
          apply Exists.intro
          refine And.intro (fun wx hx => ?_) ?_
          · go_simp
            try rfl
          go_simp
          refine hK1 _ ?_
          clear hK1 K1
          refine wpPre_i rfl (fun K1 hK1 => ?_)
          rw [if_pos (by go_simp)]
          apply Exists.intro
          refine And.intro (fun wx hx => ?_) ?_
          · go_simp
            try rfl
          go_simp
          refine hK1 _ ?_
          clear hK1 K1
          refine wpPre_i rfl (fun K1 hK1 => ?_)
          rw [if_pos (by go_simp)]
          apply Exists.intro
          refine And.intro (fun wx hx => ?_) ?_
          · have e0 := below_fact hx rfl a0
            go_simp
            try rfl
          go_simp
          refine hK1 _ ?_
          clear hK1 K1
          refine wpPre_i rfl (fun K1 hK1 => ?_)
          rw [if_pos (by go_simp)]
          apply Exists.intro
          refine And.intro (fun wx hx => ?_) ?_
          · go_simp
            try rfl
          go_simp
          refine hK1 _ ?_
          clear hK1 K1
          refine wpPre_e rfl rfl (fun K1 hK1 => ?_)
          apply Exists.intro
          refine And.intro (fun wx hx => ?_) ?_
          · go_simp
            try rfl
          go_simp
          refine hK1 _ ?_
          clear hK1 K1
          refine wpPre_nil ?_
          refine wpTr_done ?_
          obtain ⟨wq, hwq⟩ : ∃ V, V = wr.drew := ⟨_, rfl⟩
          rw [← hwq]
          have HOq : Hid (wq.ownsRow w1.heap.size 77 3 (.slice p (putL A f i false).length c) (putL A f i false).length ((putL A f i false).flatMap elO.cells)) := by show World.ownsRow _ _ _ _ _ _ _; rw [hwq]; exact HO.out
          have HBq : Hid (Below w1.heap.size w1 wq) := by show Below _ _ _; rw [hwq]; exact HBw.out.drew
          have HRq : Hid (Box wq rb #[.slice A.p A.n A.c, .bool dn0, .int .i64 x2, .int .i64 x3, .int .i64 x4] 75) := by show Box _ _ _ _; rw [hwq]; exact HRr.out
          have HFq : Hid (Box wq w.heap.size #[.string f.name, .slice f.sp f.sn f.sc, .slice f.lp f.ln f.lc] 77) := by show Box _ _ _ _; rw [hwq]; exact HFr.out
          have b0' : wq.cell? ⟨bb, o + i * 3, none⟩ = some (.string (A.item i).name) := by rw [hwq]; exact a0
          have b1' : wq.cell? ⟨bb, o + i * 3 + 1, none⟩ = some (.slice (A.item i).sp (A.item i).sn (A.item i).sc) := by rw [hwq]; exact a1
          have b2' : wq.cell? ⟨bb, o + i * 3 + 2, none⟩ = some (.slice (A.item i).lp (A.item i).ln (A.item i).lc) := by rw [hwq]; exact a2
          have HHat : Hid (∀ q u, (elO.cells (A.item i))[q]? = some u → w1.cell? ⟨bb, o + i * 3 + q, none⟩ = some u) := fun q u hu => HAT.out i hlt q u hu
          clear a0 a1 a2 r0 r1 r2 r3 r4 rl f0 f1 f2 fl hwq
          have r0 := HRq.out.cell 0
          have rl := HRq.out.lt
          simp at r0
          rw [hp] at r0
          have f0 := HFq.out.cell 0
          have f1 := HFq.out.cell 1
          have f2 := HFq.out.cell 2
          have fl := HFq.out.lt
          simp at f0 f1 f2
          go_upto_region 9 with fail
          have hnw : ∀ j u', (elO.cells (A.item i))[j]? = some u' → (wq.alloc (.cells #[.string (A.item i).name, .slice (A.item i).sp (A.item i).sn (A.item i).sc, .slice (A.item i).lp (A.item i).ln (A.item i).lc] 77)).cell? ((⟨wq.heap.size, 0, none⟩ : Addr).add j) = some u' := fun j u' hu => by
            rw [Go.WideShapes.add_plain, (Box.new wq #[.string (A.item i).name, .slice (A.item i).sp (A.item i).sn (A.item i).sc, .slice (A.item i).lp (A.item i).ln (A.item i).lc] 77).cell]
            rw [show 0 + j = j by omega]
            simpa [elO] using hu
          have hszq := HBq.out.size
          have hown2 := HOq.out.alloc (.cells #[.string (A.item i).name, .slice (A.item i).sp (A.item i).sn (A.item i).sc, .slice (A.item i).lp (A.item i).ln (A.item i).lc] 77)
          go_wp2_with (at_builtin; refine wpList_app rfl (.tmp 35) (.tmp 43) 73 77 i0 _ 3 64 HKd.out rfl w1.heap.size (.slice p (putL A f i false).length c) (putL A f i false).length _ rfl hown2 ⟨wq.heap.size, 0, none⟩ 1 1 (elO.cells (A.item i)) rfl rfl hnw (elO.one _) (by have := HLn.out; omega) (by have := HLn.out; omega) (by simp; omega) ?_)
          intro vn1 wn1 hon hgn hnn2
          have HOn1 : Hid (wn1.ownsRow w1.heap.size 77 3 vn1 (putL A f i false ++ [(A.item i)]).length ((putL A f i false ++ [(A.item i)]).flatMap elO.cells)) := by
            show World.ownsRow _ _ _ _ _ _ _
            simpa using hon
          have HBn1 : Hid (Below w1.heap.size w1 wn1) := (HBq.out.trans (((Below.refl _ _).alloc (Nat.le_refl _) _).mono HBq.out.size)).grown hgn (by simp; omega) (fun g hg => (hown2.lt g (by first | exact hg | (simpa using hg))).1)
          obtain ⟨pn1, cn1, hvn⟩ := ownsRow_slice HOn1.out
          subst hvn
          clear hon hgn hnn2 hnw hown2 hszq
          go_wp2
          go_roundw
          case rel => exact ⟨i + 1, pn1, cn1, by omega, by go_num, by rw [HN.out.1], by rw [HN.out.1, HN.out.2], by rw [HN.out.1, HN.out.2]; exact HOn1.out, HBn1.out⟩
          case measure => simp [intOf]; omega
    · have hlt' : ¬ (i : Int) < (A.n : Int) := by omega
      obtain rfl : i = A.n := by omega
      have HEnd : Hid (∀ (wz : World) (p' : Option Addr) (c' : Nat) (L : List RO), L = insR f (A.lst A.n) → wz.ownsRow w1.heap.size 77 3 (.slice p' L.length c') L.length (L.flatMap elO.cells) → Below w1.heap.size w1 wz → PutQ A f w b0 rb dn0 x2 x3 x4 (wz.setCell ⟨rb, 0, none⟩ (.slice p' L.length c'))) := by
        intro wz p' c' L hL hO hB
        have hs1 := HS1.out
        have hlen : L.length = A.n + 1 := by rw [hL, insR_len]; simp [LT.lst]
        have hbt : But (fun k => k = rb) wz (wz.setCell ⟨rb, 0, none⟩ (.slice p' L.length c')) := (But.one _ _).setAt 0 _
        have hbel : Below w.heap.size w wz := HB1.out.trans (hB.mono HB1.out.size)
        have keep : ∀ x, elO.In w1 (fun k => b0 ≤ k ∧ k ≠ rb) x → elO.In (wz.setCell ⟨rb, 0, none⟩ (.slice p' L.length c')) (fun k => b0 ≤ k ∧ k ≠ rb) x := fun x hx => elO.kept (elO.kept hx hB.size fun b _ hl => hB.block b hl) hbt.size fun b hb hl => hbt.block b hl hb.2
        refine ⟨p', c', ?_, ?_, ?_⟩
        · have h := (HR1.out.below hB).set 0 (.slice p' L.length c')
          rw [hlen] at h ⊢
          simpa using h
        · rw [← hL]
          refine own_lt f (base := w1.heap.size) (ownsRow_keep hO fun g hg hl => hbt.block g hl fun e => ?_) (fun k hk => ⟨by omega, by omega⟩) (fun x hx => keep x ?_) (by omega)
          · have e' : g = rb := e
            have := (hO.lt g hg).1
            omega
          · rw [hL] at hx
            rcases insR_mem f (A.lst A.n) x hx with rfl | hx
            · exact HFi.out
            · obtain ⟨j, hj, rfl⟩ := List.mem_map.1 hx
              exact HA1.out.each j (List.mem_range.1 hj)
        · exact (But.ofBelow hbel).trans hbt
      have rg0 := HRr.out.frozen 0
      cases hB : putB A f A.n with
      | true =>
        rw [hB] at HO
        have HE := hid (HEnd.out wr p c (putL A f A.n true) (by simp [putL]) HO.out HBw.out)
        go_wp2
        go_end0
        exact ⟨rfl, HE.out⟩
      | false =>
        rw [hB] at HO HLn
        have HNo : Hid (∀ x ∈ A.lst A.n, lessN f.name x.name = false) := fun x hx => by
          have := List.any_eq_false.1 hB x hx
          simpa using this
        go_upto_region 11 with fail
        have hnw : ∀ j u', (elO.cells f)[j]? = some u' → (wr.alloc (.cells #[.string f.name, .slice f.sp f.sn f.sc, .slice f.lp f.ln f.lc] 77)).cell? ((⟨wr.heap.size, 0, none⟩ : Addr).add j) = some u' := fun j u' hu => by
          rw [Go.WideShapes.add_plain, (Box.new wr #[.string f.name, .slice f.sp f.sn f.sc, .slice f.lp f.ln f.lc] 77).cell]
          rw [show 0 + j = j by omega]
          simpa [elO] using hu
        have hszq := HBw.out.size
        have hown2 := HO.out.alloc (.cells #[.string f.name, .slice f.sp f.sn f.sc, .slice f.lp f.ln f.lc] 77)
        go_wp2_with (at_builtin; refine wpList_app rfl (.tmp 47) (.tmp 49) 73 77 i0 _ 3 64 HKd.out rfl w1.heap.size (.slice p (putL A f A.n false).length c) (putL A f A.n false).length _ rfl hown2 ⟨wr.heap.size, 0, none⟩ 1 1 (elO.cells f) rfl rfl hnw (elO.one _) (by have := HLn.out; omega) (by have := HLn.out; omega) (by simp; omega) ?_)
        intro vn1 wn1 hon hgn hnn2
        have HOn1 : Hid (wn1.ownsRow w1.heap.size 77 3 vn1 (putL A f A.n false ++ [f]).length ((putL A f A.n false ++ [f]).flatMap elO.cells)) := by
          show World.ownsRow _ _ _ _ _ _ _
          simpa using hon
        have HBn1 : Hid (Below w1.heap.size w1 wn1) := (HBw.out.trans (((Below.refl _ _).alloc (Nat.le_refl _) _).mono HBw.out.size)).grown hgn (by simp; omega) (fun g hg => (hown2.lt g (by first | exact hg | (simpa using hg))).1)
        obtain ⟨pn1, cn1, hvn⟩ := ownsRow_slice HOn1.out
        subst hvn
        clear hon hgn hnn2 hnw hown2 hszq
        clear r0 r1 r2 r3 r4 rl f0 f1 f2 fl rg0
        have HE := hid (HEnd.out wn1 pn1 cn1 (putL A f A.n false ++ [f]) (by simp only [putL, Bool.false_eq_true, if_false]; exact (insR_none f _ HNo.out).symm) HOn1.out HBn1.out)
        have hRe := HR1.out.below HBn1.out
        have r0 := hRe.cell 0
        have g0 := hRe.frozen 0
        have rl := hRe.lt
        simp at r0
        simp only [List.length_append, List.length_singleton] at HE
        clear hRe
        go_wp2
        go_end0
        exact ⟨rfl, HE.out⟩
end Go.Proofs.YtebiidfdokhpaabGreatDoor
