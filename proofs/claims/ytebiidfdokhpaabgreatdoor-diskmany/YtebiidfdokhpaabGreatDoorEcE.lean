import Derived.Test.YtebiidfdokhpaabGreatDoorEcD
namespace Go.Proofs.YtebiidfdokhpaabGreatDoor
open Go.RowKit
set_option maxRecDepth 8000
abbrev Key := ByteArray × List Int × Int
def insK (f : Key) : List Key → List Key
  | [] => [f]
  | a :: l => if lessN f.1 a.1 = true then f :: a :: l else a :: insK f l
theorem insK_map (f : RO) : ∀ l : List RO, (insR f l).map RO.key = insK f.key (l.map RO.key)
  | [] => rfl
  | b :: l => by
    have e : lessN f.key.1 b.key.1 = lessN f.name b.name := rfl
    simp only [insR, List.map_cons, insK, e]
    split
    · rfl
    · rw [List.map_cons, insK_map f l]
theorem insK_perm (f : Key) : ∀ l : List Key, (insK f l).Perm (f :: l)
  | [] => List.Perm.refl _
  | b :: l => by
    simp only [insK]
    split
    · exact List.Perm.refl _
    · exact ((insK_perm f l).cons b).trans (List.Perm.swap _ _ _)
/-- the keys of the first i files, in their order -/
def srtK (l : LT FA) : Nat → List Key
  | 0 => []
  | i + 1 => insK (l.item i).key (srtK l i)
theorem srtK_perm (l : LT FA) : ∀ i, (srtK l i).Perm ((List.range i).map fun j => (l.item j).key)
  | 0 => List.Perm.refl _
  | i + 1 => by
    rw [List.range_succ, List.map_append]
    exact (insK_perm _ _).trans (((srtK_perm l i).cons _).trans (List.perm_append_singleton _ _).symm)
/-- the reference's disk while its first i files are laid -/
structure RnI (l : LT FA) (w : World) (i : Nat) (wr : World) (A : LT RO) : Prop where
  bx : Box wr w.heap.size #[.slice A.p A.n A.c, .bool false, .int .i64 (-1), .int .i64 0, .int .i64 0] 75
  li : LT.In elO wr (fun k => w.heap.size ≤ k ∧ k ≠ w.heap.size) A
  n : A.n = i
  ks : (A.lst A.n).map RO.key = srtK l i
  ok : ∀ j, j < i → fOk (names l j) (l.item j) = true
  bel : Below w.heap.size w wr
theorem RnI.has {l : LT FA} {w : World} {i : Nat} {wr : World} {A : LT RO} (h : RnI l w i wr A) (s : ByteArray) : hasN A s = (names l i).any fun x => decide (x = s) := by
  have hp := (srtK_perm l i).map Prod.fst
  rw [← h.ks, List.map_map, List.map_map] at hp
  have e1 : (A.lst A.n).map (Prod.fst ∘ RO.key) = (List.range A.n).map fun j => (A.item j).name := by simp [LT.lst, List.map_map, Function.comp_def, RO.key]
  have e2 : (List.range i).map (Prod.fst ∘ fun j => (l.item j).key) = names l i := by simp [names, Function.comp_def, FA.key]
  rw [e1, e2] at hp
  have e3 : hasN A s = ((List.range A.n).map fun j => (A.item j).name).any fun x => decide (x = s) := by simp [hasN, List.any_map, Function.comp_def]
  rw [e3]
  exact hp.any_eq
def RnewQ (l : LT FA) (w : World) (e : Ending) (w' : World) : Prop :=
  Below w.heap.size w w' ∧ (newB l = false → e = .returned (.tuple #[.pointer none, .int .i64 105])) ∧
    (newB l = true → ∃ A, e = .returned (.tuple #[.pointer (some ⟨w.heap.size, 0, none⟩), .int .i64 0]) ∧ RnI l w l.n w' A)
/-- the file as the reference has it -/
def newO (l : LT FA) (i : Nat) (ps : Option Addr) (cs : Nat) (pl : Option Addr) (cl : Nat) : RO :=
  ⟨(l.item i).name, ps, (l.item i).sy.toNat, cs, fun j => ((List.range (l.item i).sy.toNat).map fun j => (l.item i).f (0 + j)).getD j 0, pl, (l.item i).n - (l.item i).sy.toNat, cl, fun j => ((List.range ((l.item i).n - (l.item i).sy.toNat)).map fun j => (l.item i).f ((l.item i).sy.toNat + j)).getD j 0⟩
theorem lOf_lst (p : Option Addr) (c : Nat) (z : RO) (xs : List RO) : (lOf p c z xs).lst xs.length = xs := by
  show (List.range xs.length).map (fun j => xs.getD j z) = xs
  apply List.ext_getElem?
  intro j
  by_cases h : j < xs.length
  · simp [List.getElem?_range h, List.getD_eq_getElem?_getD, List.getElem?_eq_getElem h]
  · rw [List.getElem?_eq_none (by simp; omega), List.getElem?_eq_none (by omega)]
theorem getD_map_range (n : Nat) (f : Nat → Int) : (List.range n).map (fun j => ((List.range n).map f).getD j 0) = (List.range n).map f := by
  apply List.map_congr_left
  intro j hj
  have hj' := List.mem_range.1 hj
  simp [List.getD_eq_getElem?_getD, List.getElem?_range hj']
theorem newO_key (l : LT FA) (i : Nat) (ps : Option Addr) (cs : Nat) (pl : Option Addr) (cl : Nat) (h0 : 0 ≤ (l.item i).sy) (h1 : (l.item i).sy ≤ ((l.item i).n : Int)) : (newO l i ps cs pl cl).key = (l.item i).key := by
  have hk : (l.item i).sy.toNat + ((l.item i).n - (l.item i).sy.toNat) = (l.item i).n := by omega
  have hz : (newO l i ps cs pl cl).zs = (l.item i).zs := by
    unfold RO.zs newO FA.zs
    dsimp only
    rw [getD_map_range, getD_map_range]
    conv => rhs; rw [← hk, List.range_add, List.map_append, List.map_map]
    congr 1
    apply List.map_congr_left
    intro j _
    simp
  unfold RO.key FA.key
  rw [hz]
  refine Prod.ext rfl (Prod.ext rfl ?_)
  show (((l.item i).sy.toNat : Nat) : Int) = (l.item i).sy
  omega
set_option maxHeartbeats 8000000 in
theorem rnew_any (l : LT FA) (w : World) (hl : LT.In elF w (fun b => b < w.heap.size) l) :
    Calls Tryz.prog 14 #[.slice l.p l.n l.c] w fun e w' => RnewQ l w e w' := by
  have HL := hid hl
  have hnn := hl.nn
  clear hl
  obtain ⟨W, hW⟩ : ∃ V, V = w.alloc (.cells #[.slice none 0 0, .bool false, .int .i64 (-1), .int .i64 0, .int .i64 0] 75) := ⟨_, rfl⟩
  have HBW : Hid (Below w.heap.size w W) := by show Below _ _ _; rw [hW]; exact (Below.refl _ _).alloc (Nat.le_refl _) _
  have HI0 : Hid (RnI l w 0 W ⟨none, 0, 0, fun _ => ⟨⟨#[]⟩, none, 0, 0, fun _ => 0, none, 0, 0, fun _ => 0⟩⟩) := ⟨by rw [hW]; exact Box.new _ _ _, LT.In.none_ _ _ _ none 0 _ (Nat.zero_le _) (fun _ => rfl), rfl, rfl, fun j hj => absurd hj (by omega), HBW.out⟩
  have HW := hid hW
  clear hW
  by_cases hn : l.n ≤ 400
  case neg =>
    have hn' : (400 : Int) < (l.n : Int) := by omega
    have HNo : Hid (newB l = false) := by show newB l = false; simp [newB, hn]
    go_enter Tryz.func14, Tryz.ntmps14
    go_upto_region 2 with fail
    rw [← HW.out]
    go_wp2
    exact bodyPost_ret (v := .tuple #[.pointer none, .int .i64 105]) (by simp [results, Tryz.results14, go_sem]) rfl ⟨HBW.out, fun _ => rfl, fun h => by rw [HNo.out] at h; cases h⟩
  case pos =>
    have hn' : ¬ (400 : Int) < (l.n : Int) := by omega
    go_enter Tryz.func14, Tryz.ntmps14
    go_upto_region 2 with fail
    rw [← HW.out]
    go_wp2_with fail
    go_loopw [5] (fun x wr => ∃ (i : Nat) (A : LT RO), i ≤ l.n ∧ x = .int .i64 (i : Int) ∧ RnI l w i wr A) (fun x _ => l.n - (intOf x).toNat)
    case atStart => exact ⟨0, _, Nat.zero_le _, rfl, HI0.out⟩
    case round =>
      obtain ⟨i, A, hi, rfl, hI⟩ := hrel
      have HI := hid hI
      clear hI
      by_cases hlt : i < l.n
      · have hlt' : (i : Int) < (l.n : Int) := by omega
        obtain ⟨bb, o, hp, _, hbb, hat⟩ := HL.out.at_ (by omega)
        rw [hp]
        have hce : ∀ r u, (elF.cells (l.item i))[r]? = some u → wr.cell? ⟨bb, o + i * 3 + r, none⟩ = some u := fun r u hu => (World.cell?_of_block (a := ⟨bb, o + i * 3 + r, none⟩) (HI.out.bel.block bb hbb)).trans (hat i hlt r u hu)
        have c0 : wr.cell? ⟨bb, o + i * 3, none⟩ = some (.string (l.item i).name) := hce 0 _ rfl
        have c1 : wr.cell? ⟨bb, o + i * 3 + 1, none⟩ = some (.slice (l.item i).p (l.item i).n (l.item i).c) := hce 1 _ rfl
        have c2 : wr.cell? ⟨bb, o + i * 3 + 2, none⟩ = some (.int .i64 (l.item i).sy) := hce 2 _ rfl
        have HA := hid (HL.out.each i hlt)
        clear hce hat
        obtain ⟨V1, hV1⟩ : ∃ V, V = wr.alloc (.cells #[.string (l.item i).name, .slice (l.item i).p (l.item i).n (l.item i).c, .int .i64 (l.item i).sy] 41) := ⟨_, rfl⟩
        have HB1 : Hid (Below wr.heap.size wr V1) := by show Below _ _ _; rw [hV1]; exact (Below.refl _ _).alloc (Nat.le_refl _) _
        have HX1 : Hid (Box V1 wr.heap.size #[.string (l.item i).name, .slice (l.item i).p (l.item i).n (l.item i).c, .int .i64 (l.item i).sy] 41) := by show Box _ _ _ _; rw [hV1]; exact Box.new _ _ _
        have HV1 := hid hV1
        have HBv : Hid (Below w.heap.size w V1) := HI.out.bel.trans (HB1.out.mono HI.out.bel.size)
        clear hV1
        go_upto_region 8 with fail
        rw [← HV1.out]
        clear c0 c1 c2
        have HR1 := hid (HI.out.bx.below HB1.out)
        have HFd := hid (rfind_any A (l.item i).name V1 (fun k => w.heap.size ≤ k ∧ k ≠ w.heap.size) w.heap.size (by have h := HR1.out.cell 0; simpa using h) (HI.out.li.below HB1.out))
        have f0 := HX1.out.cell 0
        have f1 := HX1.out.cell 1
        have f2 := HX1.out.cell 2
        have fl := HX1.out.lt
        simp at f0 f1 f2
        go_wp2_with fail
        refine (named_any (l.item i).name V1 HA.out.1).mono ?_
        rintro e w2 ⟨rfl, hw2⟩
        obtain rfl := hw2.symm
        cases hnb : nmB (l.item i).name with
        | false =>
          have HNo : Hid (newB l = false) := newB_no l i hlt (by simp [fOk, hnb])
          go_wp2
          exact bodyPost_ret (v := .tuple #[.pointer none, .int .i64 105]) (by simp [results, Tryz.results14, go_sem]) rfl ⟨HBv.out, fun _ => rfl, fun h => by rw [HNo.out] at h; cases h⟩
        | true =>
          go_wp2_with fail
          refine HFd.out.mono ?_
          rintro e w3 ⟨r, rfl, hw3, hr1, hr0⟩
          obtain rfl := hw3.symm
          rw [HI.out.has] at hr1 hr0
          cases hdup : ((names l i).any fun x => decide (x = (l.item i).name)) with
          | true =>
            have hr : 0 ≤ r := hr1 hdup
            have HNo : Hid (newB l = false) := newB_no l i hlt (by simp [fOk, hnb, hdup])
            clear hr1 hr0
            go_wp2
            exact bodyPost_ret (v := .tuple #[.pointer none, .int .i64 105]) (by simp [results, Tryz.results14, go_sem]) rfl ⟨HBv.out, fun _ => rfl, fun h => by rw [HNo.out] at h; cases h⟩
          | false =>
            obtain rfl : r = -1 := hr0 hdup
            clear hr1 hr0
            by_cases k1 : (l.item i).n ≤ 65536
            · have k1' : ¬ (65536 : Int) < ((l.item i).n : Int) := by omega
              by_cases k2 : 0 ≤ (l.item i).sy
              · have k2' : ¬ (l.item i).sy < 0 := by omega
                by_cases k3 : (l.item i).sy ≤ ((l.item i).n : Int)
                · have k3' : ¬ ((l.item i).n : Int) < (l.item i).sy := by omega
                  have HOk : Hid (fOk (names l i) (l.item i) = true) := by
                    show fOk _ _ = true
                    simp [fOk, hnb, hdup, k1, k2, k3]
                  have hsy : (((l.item i).sy.toNat : Nat) : Int) = (l.item i).sy := by omega
                  have HBy : Hid (∀ X, Below V1.heap.size V1 X → Byts X (fun b => b < w.heap.size) (l.item i).p (l.item i).n (l.item i).c (l.item i).f) := fun X hX => (HA.out.2.1.kept HBv.out.size fun b _ hl => HBv.out.block b hl).kept hX.size fun b _ hl => hX.block b hl
                  have HFa : Hid (∀ X, Below V1.heap.size V1 X → Calls Tryz.prog 24 #[.slice (l.item i).p (l.item i).n (l.item i).c, .int .i64 0, .int .i64 (l.item i).sy] X fun e w' => ∃ (p' : Option Addr) (c' : Nat), e = .returned (.slice p' (l.item i).sy.toNat c') ∧ OwnBy X.heap.size w' (.slice p' (l.item i).sy.toNat c') ((List.range (l.item i).sy.toNat).map fun j => (l.item i).f (0 + j)) ∧ Below X.heap.size X w') := fun X hX => by
                    have h := rfresh_any (l.item i).p (l.item i).n (l.item i).c 0 (l.item i).sy.toNat (l.item i).f X _ (HBy.out X hX) (Nat.zero_le _) (by omega) k1
                    rw [hsy] at h
                    exact h
                  have HFb : Hid (∀ X, Below V1.heap.size V1 X → Calls Tryz.prog 24 #[.slice (l.item i).p (l.item i).n (l.item i).c, .int .i64 (l.item i).sy, .int .i64 ((l.item i).n : Int)] X fun e w' => ∃ (p' : Option Addr) (c' : Nat), e = .returned (.slice p' ((l.item i).n - (l.item i).sy.toNat) c') ∧ OwnBy X.heap.size w' (.slice p' ((l.item i).n - (l.item i).sy.toNat) c') ((List.range ((l.item i).n - (l.item i).sy.toNat)).map fun j => (l.item i).f ((l.item i).sy.toNat + j)) ∧ Below X.heap.size X w') := fun X hX => by
                    have h := rfresh_any (l.item i).p (l.item i).n (l.item i).c (l.item i).sy.toNat (l.item i).n (l.item i).f X _ (HBy.out X hX) (by omega) (Nat.le_refl _) k1
                    rw [hsy] at h
                    exact h
                  have HPu : Hid (∀ (w3 : World) (ps : Option Addr) (cs : Nat) (pl : Option Addr) (cl : Nat), Below V1.heap.size V1 w3 → OwnBy V1.heap.size w3 (.slice ps (l.item i).sy.toNat cs) ((List.range (l.item i).sy.toNat).map fun j => (l.item i).f (0 + j)) → OwnBy V1.heap.size w3 (.slice pl ((l.item i).n - (l.item i).sy.toNat) cl) ((List.range ((l.item i).n - (l.item i).sy.toNat)).map fun j => (l.item i).f ((l.item i).sy.toNat + j)) →
                      Calls Tryz.prog 30 #[.pointer (some ⟨w.heap.size, 0, none⟩), .agg #[.string (l.item i).name, .slice ps (l.item i).sy.toNat cs, .slice pl ((l.item i).n - (l.item i).sy.toNat) cl]] w3 fun e w' => e = .returned (.tuple #[]) ∧ PutQ A (newO l i ps cs pl cl) w3 w.heap.size w.heap.size false (-1) 0 0 w') := by
                    intro w3 ps cs pl cl hb3 ha hb
                    have hvs := HBv.out.size
                    have hvl : w.heap.size < V1.heap.size := HR1.out.lt
                    have hfit : ∀ m k, m + k ≤ (l.item i).n → ∀ z ∈ (List.range k).map (fun j => (l.item i).f (m + j)), 0 ≤ z ∧ z ≤ 255 := fun m k hmk z hz => by
                      obtain ⟨j, hj, rfl⟩ := List.mem_map.1 hz
                      have := HA.out.2.1.fit (m + j) (by have := List.mem_range.1 hj; omega)
                      omega
                    have l1 : ((List.range (l.item i).sy.toNat).map fun j => (l.item i).f (0 + j)).length = (l.item i).sy.toNat := by simp
                    have l2 : ((List.range ((l.item i).n - (l.item i).sy.toNat)).map fun j => (l.item i).f ((l.item i).sy.toNat + j)).length = (l.item i).n - (l.item i).sy.toNat := by simp
                    have y1 := own_byts (S := fun k => w.heap.size ≤ k ∧ k ≠ w.heap.size) (p := ps) (c := cs) (zs := (List.range (l.item i).sy.toNat).map fun j => (l.item i).f (0 + j)) (by rw [l1]; exact ha) (fun g hg => by rw [l1] at hg; have := (ha.lt g hg).1; exact ⟨by omega, by omega⟩) (hfit 0 _ (by omega)) (by rw [l1]; omega)
                    have y2 := own_byts (S := fun k => w.heap.size ≤ k ∧ k ≠ w.heap.size) (p := pl) (c := cl) (zs := (List.range ((l.item i).n - (l.item i).sy.toNat)).map fun j => (l.item i).f ((l.item i).sy.toNat + j)) (by rw [l2]; exact hb) (fun g hg => by rw [l2] at hg; have := (hb.lt g hg).1; exact ⟨by omega, by omega⟩) (hfit _ _ (by omega)) (by rw [l2]; omega)
                    rw [l1] at y1
                    rw [l2] at y2
                    exact rput_any A (newO l i ps cs pl cl) w3 w.heap.size w.heap.size false (-1) 0 0 (HR1.out.below hb3) ((HI.out.li.below HB1.out).below hb3) ⟨HA.out.1, y1, y2, by show (l.item i).sy.toNat + ((l.item i).n - (l.item i).sy.toNat) ≤ 65536; omega⟩ (Nat.le_trans hvs hb3.size) (by have := HI.out.n; omega)
                  go_upto_region 11 with fail
                  refine wp_region_calmE 30 (fun wx => Below V1.heap.size V1 wx) [(0, true), (1, true), (2, false), (3, true), (4, false), (5, true), (6, false), (8, true), (9, false), (10, true), (11, false), (12, true)] (.one 7 true [] (.one 13 true [(14, true)] (.one 15 false [] .done))) (by kernel_rfl) (by kernel_rfl) (Below.refl _ _).drew ?_
                  refine wpPre_e rfl rfl (fun K1 hK1 => ?_)
                  apply Exists.intro
                  refine And.intro (fun wx hx => ?_) ?_
                  · go_simp
                    try rfl
                  go_simp
                  refine hK1 _ ?_
                  clear hK1 K1
                  refine wpPre_e rfl rfl (fun K1 hK1 => ?_)
                  apply Exists.intro
                  refine And.intro (fun wx hx => ?_) ?_
                  · go_simp
                    try rfl
                  go_simp
                  refine hK1 _ ?_
                  clear hK1 K1
                  refine wpPre_e rfl rfl (fun K1 hK1 => ?_)
                  apply Exists.intro
                  refine And.intro (fun wx hx => ?_) ?_
                  · have e0 := below_fact hx rfl f0
                    go_simp
                    try rfl
                  go_simp
                  refine hK1 _ ?_
                  clear hK1 K1
                  refine wpPre_e rfl rfl (fun K1 hK1 => ?_)
                  apply Exists.intro
                  refine And.intro (fun wx hx => ?_) ?_
                  · go_simp
                    try rfl
                  go_simp
                  refine hK1 _ ?_
                  clear hK1 K1
                  refine wpPre_e rfl rfl (fun K1 hK1 => ?_)
                  apply Exists.intro
                  refine And.intro (fun wx hx => ?_) ?_
                  · have e0 := below_fact hx rfl f1
                    go_simp
                    try rfl
                  go_simp
                  refine hK1 _ ?_
                  clear hK1 K1
                  refine wpPre_e rfl rfl (fun K1 hK1 => ?_)
                  apply Exists.intro
                  refine And.intro (fun wx hx => ?_) ?_
                  · go_simp
                    try rfl
                  go_simp
                  refine hK1 _ ?_
                  clear hK1 K1
                  refine wpPre_e rfl rfl (fun K1 hK1 => ?_)
                  apply Exists.intro
                  refine And.intro (fun wx hx => ?_) ?_
                  · have e0 := below_fact hx rfl f2
                    go_simp
                    try rfl
                  go_simp
                  refine hK1 _ ?_
                  clear hK1 K1
                  refine wpPre_e rfl rfl (fun K1 hK1 => ?_)
                  apply Exists.intro
                  refine And.intro (fun wx hx => ?_) ?_
                  · go_simp
                    try rfl
                  go_simp
                  refine hK1 _ ?_
                  clear hK1 K1
                  refine wpPre_e rfl rfl (fun K1 hK1 => ?_)
                  apply Exists.intro
                  refine And.intro (fun wx hx => ?_) ?_
                  · have e0 := below_fact hx rfl f1
                    go_simp
                    try rfl
                  go_simp
                  refine hK1 _ ?_
                  clear hK1 K1
                  refine wpPre_e rfl rfl (fun K1 hK1 => ?_)
                  apply Exists.intro
                  refine And.intro (fun wx hx => ?_) ?_
                  · go_simp
                    try rfl
                  go_simp
                  refine hK1 _ ?_
                  clear hK1 K1
                  refine wpPre_e rfl rfl (fun K1 hK1 => ?_)
                  apply Exists.intro
                  refine And.intro (fun wx hx => ?_) ?_
                  · have e0 := below_fact hx rfl f2
                    go_simp
                    try rfl
                  go_simp
                  refine hK1 _ ?_
                  clear hK1 K1
                  refine wpPre_e rfl rfl (fun K1 hK1 => ?_)
                  apply Exists.intro
                  refine And.intro (fun wx hx => ?_) ?_
                  · go_simp
                    try rfl
                  go_simp
                  refine hK1 _ ?_
                  clear hK1 K1
                  refine wpPre_nil ?_
                  refine wpTr_e rfl (fun K1 hK1 => ?_)
                  refine step_call rfl 24 #[.tmp 56, .const (.int .i64 0), .tmp 58] _ rfl Tryz.f24 Tryz.func24 (by kernel_rfl) rfl #[.slice (l.item i).p (l.item i).n (l.item i).c, .int .i64 0, .int .i64 (l.item i).sy] rfl _ (HFa.out _ (Below.refl _ _).drew) (fun e w2 h2 => ?_)
                  obtain ⟨ps, cs, rfl, hr2, hb2⟩ := h2
                  have HB2 : Hid (Below V1.heap.size V1 w2) := (Below.refl _ _).drew.trans hb2
                  have HR2 := hid hr2
                  clear hr2 hb2
                  refine ⟨_, rfl, ?_⟩
                  go_simp
                  refine hK1 _ _ (fun _ => HB2.out) ?_
                  clear hK1 K1
                  refine wpPre_nil ?_
                  refine wpTr_e rfl (fun K1 hK1 => ?_)
                  refine step_call rfl 24 #[.tmp 61, .tmp 63, .tmp 64] _ rfl Tryz.f24 Tryz.func24 (by kernel_rfl) rfl #[.slice (l.item i).p (l.item i).n (l.item i).c, .int .i64 (l.item i).sy, .int .i64 ((l.item i).n : Int)] rfl _ (HFb.out _ HB2.out) (fun e w3 h3 => ?_)
                  obtain ⟨pl, cl, rfl, hr3, hb3⟩ := h3
                  have HB3 : Hid (Below V1.heap.size V1 w3) := HB2.out.trans (hb3.mono HB2.out.size)
                  have HR3 := hid hr3
                  have HR2b := hid (HR2.out.below hb3)
                  clear hr3 hb3
                  refine ⟨_, rfl, ?_⟩
                  go_simp
                  refine hK1 _ _ (fun _ => HB3.out) ?_
                  clear hK1 K1
                  refine wpPre_e rfl rfl (fun K1 hK1 => ?_)
                  apply Exists.intro
                  refine And.intro (fun wx hx => ?_) ?_
                  · go_simp
                    try rfl
                  go_simp
                  refine hK1 _ ?_
                  clear hK1 K1
                  refine wpPre_nil ?_
                  refine wpTr_e rfl (fun K1 hK1 => ?_)
                  refine step_call rfl 30 #[.tmp 52, .tmp 66] _ rfl Tryz.f30 Tryz.func30 (by kernel_rfl) rfl #[.pointer (some ⟨w.heap.size, 0, none⟩), .agg #[.string (l.item i).name, .slice ps (l.item i).sy.toNat cs, .slice pl ((l.item i).n - (l.item i).sy.toNat) cl]] rfl _ (HPu.out w3 ps cs pl cl HB3.out (own_low HR2b.out (Nat.le_refl _)) (own_low HR3.out HB2.out.size)) (fun e w4 h4 => ?_)
                  obtain ⟨rfl, hq4⟩ := h4
                  have HQ4 := hid hq4
                  clear hq4
                  refine ⟨_, rfl, ?_⟩
                  go_simp
                  refine hK1 _ _ (fun h => by cases h) ?_
                  clear hK1 K1
                  refine wpPre_nil ?_
                  refine wpTr_done ?_
                  have HP : Hid (∃ A', RnI l w (i + 1) w4 A') := by
                    obtain ⟨p4, c4, q1, q2, q3⟩ := HQ4.out
                    have hAn := HI.out.n
                    have hlen : (insR (newO l i ps cs pl cl) (A.lst A.n)).length = i + 1 := by rw [insR_len]; simp [LT.lst, hAn]
                    refine ⟨_, ?_, q2, hlen, ?_, ?_, ?_⟩
                    · show Box w4 w.heap.size #[.slice p4 (insR (newO l i ps cs pl cl) (A.lst A.n)).length c4, .bool false, .int .i64 (-1), .int .i64 0, .int .i64 0] 75
                      rw [hlen, ← hAn]
                      exact q1
                    · show ((lOf p4 c4 (newO l i ps cs pl cl) (insR (newO l i ps cs pl cl) (A.lst A.n))).lst (insR (newO l i ps cs pl cl) (A.lst A.n)).length).map RO.key = _
                      rw [lOf_lst, insK_map, HI.out.ks, newO_key l i ps cs pl cl k2 k3]
                      rfl
                    · intro j hj
                      by_cases hji : j < i
                      · exact HI.out.ok j hji
                      · obtain rfl : j = i := by omega
                        exact HOk.out
                    · exact (HBv.out.trans (HB3.out.mono HBv.out.size)).trans (q3.below (Nat.le_trans HBv.out.size HB3.out.size) fun k hk e => by have e' : k = w.heap.size := e; omega)
                  go_wp2
                  go_roundw
                  case rel =>
                    obtain ⟨A', hA'⟩ := HP.out
                    exact ⟨i + 1, A', by omega, by go_num, hA'⟩
                  case measure => simp [intOf]; omega
                · have k3' : ((l.item i).n : Int) < (l.item i).sy := by omega
                  have HNo : Hid (newB l = false) := newB_no l i hlt (by simp [fOk, hnb, hdup, k1, k2, k3])
                  go_wp2
                  exact bodyPost_ret (v := .tuple #[.pointer none, .int .i64 105]) (by simp [results, Tryz.results14, go_sem]) rfl ⟨HBv.out, fun _ => rfl, fun h => by rw [HNo.out] at h; cases h⟩
              · have k2' : (l.item i).sy < 0 := by omega
                have HNo : Hid (newB l = false) := newB_no l i hlt (by simp [fOk, hnb, hdup, k1, k2])
                go_wp2
                exact bodyPost_ret (v := .tuple #[.pointer none, .int .i64 105]) (by simp [results, Tryz.results14, go_sem]) rfl ⟨HBv.out, fun _ => rfl, fun h => by rw [HNo.out] at h; cases h⟩
            · have k1' : (65536 : Int) < ((l.item i).n : Int) := by omega
              have HNo : Hid (newB l = false) := newB_no l i hlt (by simp [fOk, hnb, hdup, k1])
              go_wp2
              exact bodyPost_ret (v := .tuple #[.pointer none, .int .i64 105]) (by simp [results, Tryz.results14, go_sem]) rfl ⟨HBv.out, fun _ => rfl, fun h => by rw [HNo.out] at h; cases h⟩
      · have hlt' : ¬ (i : Int) < (l.n : Int) := by omega
        obtain rfl : i = l.n := by omega
        have HY : Hid (newB l = true) := newB_yes l hn HI.out.ok
        go_wp2
        exact bodyPost_ret (v := .tuple #[.pointer (some ⟨w.heap.size, 0, none⟩), .int .i64 0]) (by simp [results, Tryz.results14, go_sem]) rfl ⟨HI.out.bel, (fun h => by rw [HY.out] at h; cases h), fun _ => ⟨A, rfl, HI.out⟩⟩
end Go.Proofs.YtebiidfdokhpaabGreatDoor
