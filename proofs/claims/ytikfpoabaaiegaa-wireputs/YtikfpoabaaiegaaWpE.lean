import Derived.Test.YtikfpoabaaiegaaPack16
namespace Go.Proofs.Ytikfpoabaaiegaa
open Go.RowKit
set_option maxRecDepth 8000
theorem DT.In.kept {w w' : World} {S : Nat → Prop} {d : DT} (h : DT.In w S d) (hs : w.heap.size ≤ w'.heap.size) (hb : ∀ b, S b → b < w.heap.size → w'.heap[b]? = w.heap[b]?) : DT.In w' S d := ⟨h.n, h.set.kept hs hb, h.gone.kept hs hb⟩
/-- a cell, a state that can be written -/
def VC (t : VT) : Prop := t.text.size ≤ 12 ∧ t.n ≤ 6
structure VS (s : ST) : Prop where
  num0 : 0 ≤ s.num
  num1 : s.num ≤ 1073741824
  n : s.n ≤ 64
  cell : ∀ j, j < s.n → VC (s.cell j)
def stateB (s : ST) : List Int := grpB s.num.toNat ++ listB cellB s.n s.cell
theorem cellB_len {w : World} {S : Nat → Prop} {t : VT} (h : VT.In w S t) (hv : VC t) : (cellB t).length ≤ 6100 := by
  unfold cellB
  rw [List.length_append]
  have := keyB_len (s := t.text) (by have := hv.1; omega)
  have := vals_len h hv.2
  omega
theorem cells_put (l : LT VT) (base : Nat) (w : World) (v : Value) (zs : List Int) (hv : OwnBy base w v zs) (hb : base ≤ w.heap.size) (hin : LT.In elCell w (fun b => b < base) l) (hl : ∀ j, j < l.n → VC (l.item j)) (hn : l.n ≤ 64) (hz : zs.length ≤ 75000000) :
    Calls Try.prog 99 #[v, .slice l.p l.n l.c, .func (.func 101) #[] #[]] w fun e w' => EPost base w (zs ++ listB cellB l.n l.item) e w' :=
  apCell VC cellB 6100 l base w v zs hv hb hin hl (fun j hj => cellB_len (hin.each j hj) (hl j hj)) (by omega) 80000000 (by omega) (by omega) (fun W x v2 ys hW ho hx hc hy => wpCell_any x hc.1 hc.2 base W v2 ys ho hW hx hy)
theorem cells_len {w : World} {S : Nat → Prop} {l : LT VT} (h : LT.In elCell w S l) (hl : ∀ j, j < l.n → VC (l.item j)) (hn : l.n ≤ 64) : (listB cellB l.n l.item).length ≤ 400000 := by
  have h1 := listB_len (enc := cellB) (f := l.item) (C := 6100) (n := l.n) (by omega) (fun j hj => cellB_len (h.each j hj) (hl j hj))
  omega
theorem ST.toLT {w : World} {S : Nat → Prop} {s : ST} (h : ST.In w S s) (hn : s.p = none → s.n = 0 ∧ s.c = 0) : LT.In elCell w S ⟨s.p, s.n, s.c, s.cell⟩ := by
  refine ⟨fun hn => ?_, h.each, h.nc, h.nn, h.cc, hn⟩
  obtain ⟨b, o, e, hS, hl, ha⟩ := h.at_ hn
  refine ⟨b, o, e, hS, hl, fun j hj r u hu => ?_⟩
  obtain ⟨a0, a1⟩ := ha j hj
  rcases r with _ | _ | r
  · simp [elCell, VT.two] at hu; rw [← hu]; exact a0
  · simp [elCell, VT.two] at hu; rw [← hu]; exact a1
  · simp [elCell, VT.two] at hu
set_option maxHeartbeats 4000000 in
theorem wpState_any (s : ST) (hs : VS s) (base : Nat) (w : World) (v : Value) (zs : List Int) (hv : OwnBy base w v zs) (hb : base ≤ w.heap.size) (hin : LT.In elCell w (fun b => b < base) ⟨s.p, s.n, s.c, s.cell⟩) (hz : zs.length ≤ 70000000) : Calls Try.prog 54 #[v, .agg #[.int .i64 s.num, .slice s.p s.n s.c]] w fun e w' => EPost base w (zs ++ stateB s) e w' := by
  have ha : Below w.heap.size w (w.alloc (.cells #[.int .i64 s.num, .slice s.p s.n s.c] 30)) := (Below.refl _ _).alloc (Nat.le_refl _) _
  have ha2 : Below w.heap.size w (w.alloc (.cells #[.int .i64 s.num, .slice s.p s.n s.c] 30)).drew := ha.drew
  have HL0 : Hid (LayB base w zs v (w.alloc (.cells #[.int .i64 s.num, .slice s.p s.n s.c] 30)).drew) := ⟨hv.below ha2, ha2.mono hb, KeepN.below ha2⟩
  have HX0 := hid ((Box.new w #[.int .i64 s.num, .slice s.p s.n s.c] 30).below (Below.refl _ _).drew)
  have hs0 : base ≤ (w.alloc (.cells #[.int .i64 s.num, .slice s.p s.n s.c] 30)).drew.heap.size := Nat.le_trans hb ha2.size
  have hbd1 : (grpB s.num.toNat).length ≤ 10 := grp_len_small (by have := hs.num1; omega)
  have HC1 := hid ((show Calls Try.prog 100 #[v, .int .i64 s.num] (w.alloc (.cells #[.int .i64 s.num, .slice s.p s.n s.c] 30)).drew fun e w' => EPost base (w.alloc (.cells #[.int .i64 s.num, .slice s.p s.n s.c] 30)).drew (zs ++ grpB s.num.toNat) e w' from by have h := wpNumber_any s.num.toNat (by have := hs.num1; omega) base (w.alloc (.cells #[.int .i64 s.num, .slice s.p s.n s.c] 30)).drew v zs HL0.out.own (by omega) (by omega); rw [Int.toNat_of_nonneg hs.num0] at h; exact h))
  have HC2 : Hid (∀ W v1, LayB base w (zs ++ grpB s.num.toNat) v1 W → Calls Try.prog 99 #[v1, .slice s.p s.n s.c, .func (.func 101) #[] #[]] W fun e w' => EPost base W ((zs ++ grpB s.num.toNat) ++ listB cellB s.n s.cell) e w') := fun W v1 h1 => cells_put ⟨s.p, s.n, s.c, s.cell⟩ base W v1 (zs ++ grpB s.num.toNat) h1.own (Nat.le_trans hb h1.bel.size) (hin.kept h1.bel.size fun b hb2 _ => h1.bel.block b hb2) hs.cell hs.n (by rw [List.length_append]; omega)
  have c0 := HX0.out.cell 0
  have c1 := HX0.out.cell 1
  simp only [List.getElem?_toArray, List.getElem?_cons_zero, List.getElem?_cons_succ] at c0 c1
  clear ha ha2 hv
  go_enter Try.func54, Try.ntmps54
  go_wp2_with fail
  go_region_law (first
    | (refine step_call rfl 100 #[.tmp 5, .tmp 7] _ rfl Try.f100 Try.func100 (by kernel_rfl) rfl #[v, .int .i64 s.num] rfl _ HC1.out ?_
       rintro e1 w2 ⟨v1, rfl, h1⟩
       refine ⟨_, rfl, ?_⟩
       have h2 := h1.lift HL0.out.bel HL0.out.keep
       have hx2 := h1.keep.box (by decide) HX0.out
       have y0 := hx2.cell 0
       have y1 := hx2.cell 1
       simp only [List.getElem?_toArray, List.getElem?_cons_zero, List.getElem?_cons_succ] at y0 y1)
    | (refine step_call rfl 99 #[.tmp 8, .tmp 10, .func 101] _ rfl Try.f99 Try.func99 (by kernel_rfl) rfl #[v1, .slice s.p s.n s.c, .func (.func 101) #[] #[]] rfl _ (HC2.out _ _ h2) ?_
       rintro e3 w3 ⟨v3, rfl, h3⟩
       refine ⟨_, rfl, ?_⟩
       have HF := hid (h3.lift h2.bel h2.keep)
       clear h3))
  all_goals
    clear h1 h2 hx2
    go_wp2
    go_ret
    refine ⟨_, rfl, ?_⟩
    have e : zs ++ stateB s = (zs ++ grpB s.num.toNat) ++ listB cellB s.n s.cell := by simp [stateB, List.append_assoc]
    rw [e]
    exact HF.out
theorem stateB_len {w : World} {S : Nat → Prop} {s : ST} (h : LT.In elCell w S ⟨s.p, s.n, s.c, s.cell⟩) (hs : VS s) : (stateB s).length ≤ 500000 := by
  unfold stateB
  rw [List.length_append]
  have h1 : (grpB s.num.toNat).length ≤ 10 := grp_len_small (by have := hs.num1; omega)
  have h2 := cells_len h hs.cell hs.n
  simp only at h2
  omega
def fileB (u : Nat × Nat) : List Int := grpB u.1 ++ wordB u.2
theorem wordB_len (u : Nat) : (wordB u).length ≤ 4 := by simp [wordB]
set_option maxHeartbeats 4000000 in
theorem wpFile_any (u : Nat × Nat) (hu1 : u.1 ≤ 65536) (hu2 : u.2 < 4294967296) (base : Nat) (w : World) (v : Value) (zs : List Int) (hv : OwnBy base w v zs) (hb : base ≤ w.heap.size)  (hz : zs.length ≤ 80000000) : Calls Try.prog 111 #[v, .agg #[.int .i64 (u.1 : Int), .int .u32 (u.2 : Int)]] w fun e w' => EPost base w (zs ++ fileB u) e w' := by
  have ha : Below w.heap.size w (w.alloc (.cells #[.int .i64 (u.1 : Int), .int .u32 (u.2 : Int)] 110)) := (Below.refl _ _).alloc (Nat.le_refl _) _
  have ha2 : Below w.heap.size w (w.alloc (.cells #[.int .i64 (u.1 : Int), .int .u32 (u.2 : Int)] 110)).drew := ha.drew
  have HL0 : Hid (LayB base w zs v (w.alloc (.cells #[.int .i64 (u.1 : Int), .int .u32 (u.2 : Int)] 110)).drew) := ⟨hv.below ha2, ha2.mono hb, KeepN.below ha2⟩
  have HX0 := hid ((Box.new w #[.int .i64 (u.1 : Int), .int .u32 (u.2 : Int)] 110).below (Below.refl _ _).drew)
  have hs0 : base ≤ (w.alloc (.cells #[.int .i64 (u.1 : Int), .int .u32 (u.2 : Int)] 110)).drew.heap.size := Nat.le_trans hb ha2.size
  have hbd1 : (grpB u.1).length ≤ 10 := grp_len_small (by omega)
  have HC1 := hid (wpNumber_any u.1 (by omega) base (w.alloc (.cells #[.int .i64 (u.1 : Int), .int .u32 (u.2 : Int)] 110)).drew v zs HL0.out.own (by omega) (by omega))
  have HC2 : Hid (∀ W v1, LayB base w (zs ++ grpB u.1) v1 W → Calls Try.prog 106 #[v1, .int .u32 (u.2 : Int)] W fun e w' => EPost base W ((zs ++ grpB u.1) ++ wordB u.2) e w') := fun W v1 h1 => wpWord_any u.2 hu2 base W v1 (zs ++ grpB u.1) h1.own (Nat.le_trans hb h1.bel.size) (by rw [List.length_append]; omega)
  have c0 := HX0.out.cell 0
  have c1 := HX0.out.cell 1
  simp only [List.getElem?_toArray, List.getElem?_cons_zero, List.getElem?_cons_succ] at c0 c1
  clear ha ha2 hv
  go_enter Try.func111, Try.ntmps111
  go_wp2_with fail
  go_region_law (first
    | (refine step_call rfl 100 #[.tmp 5, .tmp 7] _ rfl Try.f100 Try.func100 (by kernel_rfl) rfl #[v, .int .i64 (u.1 : Int)] rfl _ HC1.out ?_
       rintro e1 w2 ⟨v1, rfl, h1⟩
       refine ⟨_, rfl, ?_⟩
       have h2 := h1.lift HL0.out.bel HL0.out.keep
       have hx2 := h1.keep.box (by decide) HX0.out
       have y0 := hx2.cell 0
       have y1 := hx2.cell 1
       simp only [List.getElem?_toArray, List.getElem?_cons_zero, List.getElem?_cons_succ] at y0 y1)
    | (refine step_call rfl 106 #[.tmp 8, .tmp 10] _ rfl Try.f106 Try.func106 (by kernel_rfl) rfl #[v1, .int .u32 (u.2 : Int)] rfl _ (HC2.out _ _ h2) ?_
       rintro e3 w3 ⟨v3, rfl, h3⟩
       refine ⟨_, rfl, ?_⟩
       have HF := hid (h3.lift h2.bel h2.keep)
       clear h3))
  all_goals
    clear h1 h2 hx2
    go_wp2
    go_ret
    refine ⟨_, rfl, ?_⟩
    have e : zs ++ fileB u = (zs ++ grpB u.1) ++ wordB u.2 := by simp [fileB, List.append_assoc]
    rw [e]
    exact HF.out
theorem fileB_len {u : Nat × Nat} (h : u.1 ≤ 65536) : (fileB u).length ≤ 14 := by
  unfold fileB
  rw [List.length_append]
  have := grp_len_small (n := u.1) (by omega)
  have := wordB_len u.2
  omega
theorem recB_len {w : World} {S : Nat → Prop} {r : RT} (h : RT.In w S r) (hr : VR r) : (recB r).length ≤ 2000 := by
  unfold recB
  rw [List.length_append, List.length_append]
  have := keyB_len (s := r.key) (by have := hr.key; omega)
  have := valB_len h.v
  have := hops_len hr
  omega
def recsB (l : LT RT) : List Int := listB recB l.n l.item
structure VRs (l : LT RT) : Prop where
  n : l.n ≤ 256
  each : ∀ j, j < l.n → VR (l.item j)
theorem recs_put (l : LT RT) (hl : VRs l) (base : Nat) (w : World) (v : Value) (zs : List Int) (hv : OwnBy base w v zs) (hb : base ≤ w.heap.size) (hin : LT.In elRec w (fun b => b < base) l) (hz : zs.length ≤ 70000000) :
    Calls Try.prog 136 #[v, .slice l.p l.n l.c, .func (.func 66) #[] #[]] w fun e w' => EPost base w (zs ++ recsB l) e w' :=
  apRec VR recB 2000 l base w v zs hv hb hin hl.each (fun j hj => recB_len (hin.each j hj) (hl.each j hj)) (by have := hl.n; omega) 80000000 (by omega) (by have := hl.n; omega) (fun W x v2 ys hW ho hx hc hy => wpRec_any x hc base W v2 ys ho hW hx hy)
theorem recsB_len {w : World} {S : Nat → Prop} {l : LT RT} (h : LT.In elRec w S l) (hl : VRs l) : (recsB l).length ≤ 600000 := by
  have h1 := listB_len (enc := recB) (f := l.item) (C := 2000) (n := l.n) (by have := hl.n; omega) (fun j hj => recB_len (h.each j hj) (hl.each j hj))
  have := hl.n
  unfold recsB
  omega
set_option maxHeartbeats 1000000 in
theorem wpRecs_any (l : LT RT) (hl : VRs l) (base : Nat) (w : World) (v : Value) (zs : List Int) (hv : OwnBy base w v zs) (hb : base ≤ w.heap.size) (hin : LT.In elRec w (fun b => b < base) l) (hz : zs.length ≤ 70000000) :
    Calls Try.prog 109 #[v, .slice l.p l.n l.c] w fun e w' => EPost base w (zs ++ recsB l) e w' := by
  have HC := hid (recs_put l hl base w v zs hv hb hin hz)
  clear hv hin
  go_enter Try.func109, Try.ntmps109
  go_wp2_with fail
  refine HC.out.mono ?_
  rintro x w1 ⟨v1, rfl, h1⟩
  have HF := hid h1
  clear h1 HC
  go_wp2
  go_ret
  exact ⟨_, rfl, HF.out⟩
structure VLs (l : LT (LT RT)) : Prop where
  n : l.n ≤ 4
  each : ∀ j, j < l.n → VRs (l.item j)
theorem logs_put (l : LT (LT RT)) (hl : VLs l) (base : Nat) (w : World) (v : Value) (zs : List Int) (hv : OwnBy base w v zs) (hb : base ≤ w.heap.size) (hin : LT.In elRecs w (fun b => b < base) l) (hz : zs.length ≤ 60000000) :
    Calls Try.prog 108 #[v, .slice l.p l.n l.c, .func (.func 109) #[] #[]] w fun e w' => EPost base w (zs ++ listB recsB l.n l.item) e w' :=
  apRecs VRs recsB 600000 l base w v zs hv hb hin hl.each (fun j hj => recsB_len (hin.each j hj) (hl.each j hj)) (by have := hl.n; omega) 70000000 (by omega) (by have := hl.n; omega) (fun W x v2 ys hW ho hx hc hy => wpRecs_any x hc base W v2 ys ho hW hx hy)
theorem logs_len {w : World} {S : Nat → Prop} {l : LT (LT RT)} (h : LT.In elRecs w S l) (hl : VLs l) : (listB recsB l.n l.item).length ≤ 2500000 := by
  have h1 := listB_len (enc := recsB) (f := l.item) (C := 600000) (n := l.n) (by have := hl.n; omega) (fun j hj => recsB_len (h.each j hj) (hl.each j hj))
  have := hl.n
  omega
theorem gone_put (l : LT ByteArray) (hl : ∀ j, j < l.n → (l.item j).size ≤ 12) (hn : l.n ≤ 64) (base : Nat) (w : World) (v : Value) (zs : List Int) (hv : OwnBy base w v zs) (hb : base ≤ w.heap.size) (hin : LT.In elStr w (fun b => b < base) l) (hz : zs.length ≤ 70000000) :
    Calls Try.prog 135 #[v, .slice l.p l.n l.c, .func (.func 113) #[] #[]] w fun e w' => EPost base w (zs ++ listB keyB l.n l.item) e w' :=
  apStr (fun s => s.size ≤ 12) keyB 1010 l base w v zs hv hb hin hl (fun j hj => keyB_len (by have := hl j hj; omega)) (by omega) 80000000 (by omega) (by omega) (fun W x v2 ys hW ho hx hc hy => wpKey_any x (by omega) base W v2 ys ho hW (by omega))
theorem gone_len {l : LT ByteArray} (hl : ∀ j, j < l.n → (l.item j).size ≤ 12) (hn : l.n ≤ 64) : (listB keyB l.n l.item).length ≤ 70000 := by
  have h1 := listB_len (enc := keyB) (f := l.item) (C := 1010) (n := l.n) (by omega) (fun j hj => keyB_len (by have := hl j hj; omega))
  omega
structure VD (d : DT) : Prop where
  num : d.num ≤ 1073741824
  sn : d.set.n ≤ 64
  set : ∀ j, j < d.set.n → VC (d.set.item j)
  gn : d.gone.n ≤ 64
  gone : ∀ j, j < d.gone.n → (d.gone.item j).size ≤ 12
def deltaB (d : DT) : List Int := grpB d.num ++ (listB cellB d.set.n d.set.item ++ listB keyB d.gone.n d.gone.item)
set_option maxHeartbeats 4000000 in
theorem wpDelta_any (d : DT) (hd : VD d) (base : Nat) (w : World) (v : Value) (zs : List Int) (hv : OwnBy base w v zs) (hb : base ≤ w.heap.size) (hin : DT.In w (fun b => b < base) d) (hz : zs.length ≤ 60000000) : Calls Try.prog 107 #[v, d.val] w fun e w' => EPost base w (zs ++ deltaB d) e w' := by
  obtain ⟨i0, Kd⟩ := kindB
  have HKd := hid Kd
  clear Kd
  have ha : Below w.heap.size w (w.alloc (.cells #[.int .i64 (d.num : Int), .slice d.set.p d.set.n d.set.c, .slice d.gone.p d.gone.n d.gone.c] 34)) := (Below.refl _ _).alloc (Nat.le_refl _) _
  have HL0 : Hid (LayB base w zs v (w.alloc (.cells #[.int .i64 (d.num : Int), .slice d.set.p d.set.n d.set.c, .slice d.gone.p d.gone.n d.gone.c] 34))) := ⟨hv.below ha, ha.mono hb, KeepN.below ha⟩
  have HX0 := hid (Box.new w #[.int .i64 (d.num : Int), .slice d.set.p d.set.n d.set.c, .slice d.gone.p d.gone.n d.gone.c] 34)
  have hs0 := HL0.out.bel.size
  unfold DT.val
  clear ha hv
  have hz0 := hz
  have c0_1 := HX0.out.cell 0
  have c1_1 := HX0.out.cell 1
  have c2_1 := HX0.out.cell 2
  simp only [List.getElem?_toArray, List.getElem?_cons_zero, List.getElem?_cons_succ] at c0_1 c1_1 c2_1
  have HC1 := hid (wpNumber_any d.num (by have := hd.num; omega) base (w.alloc (.cells #[.int .i64 (d.num : Int), .slice d.set.p d.set.n d.set.c, .slice d.gone.p d.gone.n d.gone.c] 34)) v zs HL0.out.own (by omega) (by omega))
  go_enter Try.func107, Try.ntmps107
  go_wp2_with fail
  refine HC1.out.mono ?_
  rintro x1 V1 ⟨v1, rfl, h1⟩
  have HL1 := hid (h1.lift HL0.out.bel HL0.out.keep)
  have HX1 := hid (h1.keep.box (by decide) HX0.out)
  clear h1 HC1 c0_1 c1_1 c2_1
  have hs1 := HL1.out.bel.size
  have hbd1 : (grpB d.num).length ≤ 10 := grp_len_small (by have := hd.num; omega)
  have hz1 : (zs ++ grpB d.num).length ≤ 60000000 + 10 := by rw [List.length_append]; omega
  have c0_2 := HX1.out.cell 0
  have c1_2 := HX1.out.cell 1
  have c2_2 := HX1.out.cell 2
  simp only [List.getElem?_toArray, List.getElem?_cons_zero, List.getElem?_cons_succ] at c0_2 c1_2 c2_2
  have HC2 := hid (cells_put d.set base V1 v1 (zs ++ grpB d.num) HL1.out.own (by omega) (hin.set.kept HL1.out.bel.size fun b hb2 _ => HL1.out.bel.block b hb2) hd.set hd.sn (by omega))
  go_wp2_with fail
  refine HC2.out.mono ?_
  rintro x2 V2 ⟨v2, rfl, h2⟩
  have HL2 := hid (h2.lift HL1.out.bel HL1.out.keep)
  have HX2 := hid (h2.keep.box (by decide) HX1.out)
  clear h2 HC2 c0_2 c1_2 c2_2
  have hs2 := HL2.out.bel.size
  have hbd2 : (listB cellB d.set.n d.set.item).length ≤ 400000 := cells_len hin.set hd.set hd.sn
  have hz2 : ((zs ++ grpB d.num) ++ listB cellB d.set.n d.set.item).length ≤ 60000000 + 400010 := by rw [List.length_append]; omega
  have c0_3 := HX2.out.cell 0
  have c1_3 := HX2.out.cell 1
  have c2_3 := HX2.out.cell 2
  simp only [List.getElem?_toArray, List.getElem?_cons_zero, List.getElem?_cons_succ] at c0_3 c1_3 c2_3
  have HC3 := hid (gone_put d.gone hd.gone hd.gn base V2 v2 ((zs ++ grpB d.num) ++ listB cellB d.set.n d.set.item) HL2.out.own (by omega) (hin.gone.kept HL2.out.bel.size fun b hb2 _ => HL2.out.bel.block b hb2) (by omega))
  go_wp2_with fail
  refine HC3.out.mono ?_
  rintro x3 V3 ⟨v3, rfl, h3⟩
  have HL3 := hid (h3.lift HL2.out.bel HL2.out.keep)
  have HX3 := hid (h3.keep.box (by decide) HX2.out)
  clear h3 HC3 c0_3 c1_3 c2_3
  have hs3 := HL3.out.bel.size
  have hbd3 : (listB keyB d.gone.n d.gone.item).length ≤ 70000 := gone_len hd.gone hd.gn
  have hz3 : (((zs ++ grpB d.num) ++ listB cellB d.set.n d.set.item) ++ listB keyB d.gone.n d.gone.item).length ≤ 60000000 + 470010 := by rw [List.length_append]; omega
  go_wp2
  go_ret
  refine ⟨_, rfl, ?_⟩
  have e : zs ++ deltaB d = (((zs ++ grpB d.num) ++ listB cellB d.set.n d.set.item) ++ listB keyB d.gone.n d.gone.item) := by simp [deltaB, List.append_assoc]
  rw [e]
  exact HL3.out
structure VM (m : MT) : Prop where
  id : m.id ≤ 9999
  sum : m.sum < 4294967296
  n : m.rows.n ≤ 12
  rows : ∀ j, j < m.rows.n → (m.rows.item j).1 ≤ 65536 ∧ (m.rows.item j).2 < 4294967296
def manB (m : MT) : List Int := 77 :: (grpB m.id ++ (wordB m.sum ++ listB fileB m.rows.n m.rows.item))
theorem files_put (l : LT (Nat × Nat)) (hl : ∀ j, j < l.n → (l.item j).1 ≤ 65536 ∧ (l.item j).2 < 4294967296) (hn : l.n ≤ 12) (base : Nat) (w : World) (v : Value) (zs : List Int) (hv : OwnBy base w v zs) (hb : base ≤ w.heap.size) (hin : LT.In elRow w (fun b => b < base) l) (hz : zs.length ≤ 70000000) :
    Calls Try.prog 110 #[v, .slice l.p l.n l.c, .func (.func 111) #[] #[]] w fun e w' => EPost base w (zs ++ listB fileB l.n l.item) e w' :=
  apRow (fun u => u.1 ≤ 65536 ∧ u.2 < 4294967296) fileB 14 l base w v zs hv hb hin hl (fun j hj => fileB_len (hl j hj).1) (by omega) 80000000 (by omega) (by omega) (fun W x v2 ys hW ho hx hc hy => wpFile_any x hc.1 hc.2 base W v2 ys ho hW hy)
theorem files_len {l : LT (Nat × Nat)} (hl : ∀ j, j < l.n → (l.item j).1 ≤ 65536 ∧ (l.item j).2 < 4294967296) (hn : l.n ≤ 12) : (listB fileB l.n l.item).length ≤ 200 := by
  have h1 := listB_len (enc := fileB) (f := l.item) (C := 14) (n := l.n) (by omega) (fun j hj => fileB_len (hl j hj).1)
  omega
set_option maxHeartbeats 4000000 in
theorem wpMan_any (m : MT) (hm : VM m) (base : Nat) (w : World) (v : Value) (zs : List Int) (hv : OwnBy base w v zs) (hb : base ≤ w.heap.size) (hin : LT.In elRow w (fun b => b < base) m.rows) (hz : zs.length ≤ 50000000) : Calls Try.prog 60 #[v, m.val] w fun e w' => EPost base w (zs ++ manB m) e w' := by
  obtain ⟨i0, Kd⟩ := kindB
  have HKd := hid Kd
  clear Kd
  have ha : Below w.heap.size w (w.alloc (.cells #[.int .i64 (m.id : Int), .int .u32 (m.sum : Int), .slice m.rows.p m.rows.n m.rows.c] 41)) := (Below.refl _ _).alloc (Nat.le_refl _) _
  have HL0 : Hid (LayB base w zs v (w.alloc (.cells #[.int .i64 (m.id : Int), .int .u32 (m.sum : Int), .slice m.rows.p m.rows.n m.rows.c] 41))) := ⟨hv.below ha, ha.mono hb, KeepN.below ha⟩
  have HX0 := hid (Box.new w #[.int .i64 (m.id : Int), .int .u32 (m.sum : Int), .slice m.rows.p m.rows.n m.rows.c] 41)
  have hs0 := HL0.out.bel.size
  unfold MT.val
  clear ha hv
  have hz0 := hz
  have c0_1 := HX0.out.cell 0
  have c1_1 := HX0.out.cell 1
  have c2_1 := HX0.out.cell 2
  simp only [List.getElem?_toArray, List.getElem?_cons_zero, List.getElem?_cons_succ] at c0_1 c1_1 c2_1
  go_enter Try.func60, Try.ntmps60
  have HRow : Hid ((w.alloc (.cells #[.int .i64 (m.id : Int), .int .u32 (m.sum : Int), .slice m.rows.p m.rows.n m.rows.c] 41)).ownsRow base 5 1 v (zs).length ((zs).map (Value.int .u8))) := HL0.out.own
  have hnew := cell_one_new (w.alloc (.cells #[.int .i64 (m.id : Int), .int .u32 (m.sum : Int), .slice m.rows.p m.rows.n m.rows.c] 41)) (.int .u8 77) 5
  rw [show (w.alloc (.cells #[.int .i64 (m.id : Int), .int .u32 (m.sum : Int), .slice m.rows.p m.rows.n m.rows.c] 41)).heap.size = w.heap.size + 1 by simp] at hnew
  have HNew := hid hnew
  clear hnew
  go_wp2_with (at_builtin; refine wpList_app rfl (.tmp 5) (.tmp 6) 47 5 i0 _ 1 1 HKd.out rfl base v (zs).length _ rfl (HRow.out.alloc _) ⟨w.heap.size + 1, 0, none⟩ 1 1 [.int .u8 77] rfl rfl HNew.out (one8 _) (by omega) (by omega) (by simp; omega) ?_)
  intro v1 V1 ho1 hg1 hn1
  have HL1 : Hid (LayB base w (zs ++ [77]) v1 V1) := HL0.out.one (by omega) ho1 hg1
  have HX1 := hid (((KeepN.below ((Below.refl _ _).alloc (Nat.le_refl _) (.cells #[.int .u8 77] 5))).trans (KeepN.grown (HL0.out.own.below ((Below.refl _ _).alloc (Nat.le_refl _) _)) hg1)).box (by decide) HX0.out)
  clear ho1 hg1 hn1 HRow HNew c0_1 c1_1 c2_1
  have hs1 := HL1.out.bel.size
  have hbd1 : ([77]).length ≤ 1 := by simp
  have hz1 : (zs ++ [77]).length ≤ 50000000 + 1 := by rw [List.length_append]; omega
  have c0_2 := HX1.out.cell 0
  have c1_2 := HX1.out.cell 1
  have c2_2 := HX1.out.cell 2
  simp only [List.getElem?_toArray, List.getElem?_cons_zero, List.getElem?_cons_succ] at c0_2 c1_2 c2_2
  have HC2 := hid (wpNumber_any m.id (by have := hm.id; omega) base V1 v1 (zs ++ [77]) HL1.out.own (by omega) (by omega))
  go_wp2_with fail
  refine HC2.out.mono ?_
  rintro x2 V2 ⟨v2, rfl, h2⟩
  have HL2 := hid (h2.lift HL1.out.bel HL1.out.keep)
  have HX2 := hid (h2.keep.box (by decide) HX1.out)
  clear h2 HC2 c0_2 c1_2 c2_2
  have hs2 := HL2.out.bel.size
  have hbd2 : (grpB m.id).length ≤ 10 := grp_len_small (by have := hm.id; omega)
  have hz2 : ((zs ++ [77]) ++ grpB m.id).length ≤ 50000000 + 11 := by rw [List.length_append]; omega
  have c0_3 := HX2.out.cell 0
  have c1_3 := HX2.out.cell 1
  have c2_3 := HX2.out.cell 2
  simp only [List.getElem?_toArray, List.getElem?_cons_zero, List.getElem?_cons_succ] at c0_3 c1_3 c2_3
  have HC3 := hid (wpWord_any m.sum hm.sum base V2 v2 ((zs ++ [77]) ++ grpB m.id) HL2.out.own (by omega) (by omega))
  go_wp2_with fail
  refine HC3.out.mono ?_
  rintro x3 V3 ⟨v3, rfl, h3⟩
  have HL3 := hid (h3.lift HL2.out.bel HL2.out.keep)
  have HX3 := hid (h3.keep.box (by decide) HX2.out)
  clear h3 HC3 c0_3 c1_3 c2_3
  have hs3 := HL3.out.bel.size
  have hbd3 : (wordB m.sum).length ≤ 4 := wordB_len _
  have hz3 : (((zs ++ [77]) ++ grpB m.id) ++ wordB m.sum).length ≤ 50000000 + 15 := by rw [List.length_append]; omega
  have c0_4 := HX3.out.cell 0
  have c1_4 := HX3.out.cell 1
  have c2_4 := HX3.out.cell 2
  simp only [List.getElem?_toArray, List.getElem?_cons_zero, List.getElem?_cons_succ] at c0_4 c1_4 c2_4
  have HC4 := hid (files_put m.rows hm.rows hm.n base V3 v3 (((zs ++ [77]) ++ grpB m.id) ++ wordB m.sum) HL3.out.own (by omega) (hin.kept HL3.out.bel.size fun b hb2 _ => HL3.out.bel.block b hb2) (by omega))
  go_wp2_with fail
  refine HC4.out.mono ?_
  rintro x4 V4 ⟨v4, rfl, h4⟩
  have HL4 := hid (h4.lift HL3.out.bel HL3.out.keep)
  have HX4 := hid (h4.keep.box (by decide) HX3.out)
  clear h4 HC4 c0_4 c1_4 c2_4
  have hs4 := HL4.out.bel.size
  have hbd4 : (listB fileB m.rows.n m.rows.item).length ≤ 200 := files_len hm.rows hm.n
  have hz4 : ((((zs ++ [77]) ++ grpB m.id) ++ wordB m.sum) ++ listB fileB m.rows.n m.rows.item).length ≤ 50000000 + 215 := by rw [List.length_append]; omega
  go_wp2
  go_ret
  refine ⟨_, rfl, ?_⟩
  have e : zs ++ manB m = ((((zs ++ [77]) ++ grpB m.id) ++ wordB m.sum) ++ listB fileB m.rows.n m.rows.item) := by simp [manB, List.append_assoc]
  rw [e]
  exact HL4.out
def outB (o : OT) : List Int := 79 :: (grpB o.num ++ recB o.rec_)
set_option maxHeartbeats 4000000 in
theorem wpRow_any (o : OT) (ho : o.num ≤ 1073741824) (hr : VR o.rec_) (base : Nat) (w : World) (v : Value) (zs : List Int) (hv : OwnBy base w v zs) (hb : base ≤ w.heap.size) (hin : RT.In w (fun b => b < base) o.rec_) (hz : zs.length ≤ 50000000) : Calls Try.prog 63 #[v, o.val] w fun e w' => EPost base w (zs ++ outB o) e w' := by
  obtain ⟨i0, Kd⟩ := kindB
  have HKd := hid Kd
  clear Kd
  have ha : Below w.heap.size w (w.alloc (.cells #[.int .i64 (o.num : Int), .string o.rec_.key, .int .i64 o.rec_.v.kind, .int .i64 o.rec_.v.int, .string o.rec_.v.text, .slice o.rec_.v.p o.rec_.v.n o.rec_.v.c, .slice o.rec_.p o.rec_.n o.rec_.c] 43)) := (Below.refl _ _).alloc (Nat.le_refl _) _
  have HL0 : Hid (LayB base w zs v (w.alloc (.cells #[.int .i64 (o.num : Int), .string o.rec_.key, .int .i64 o.rec_.v.kind, .int .i64 o.rec_.v.int, .string o.rec_.v.text, .slice o.rec_.v.p o.rec_.v.n o.rec_.v.c, .slice o.rec_.p o.rec_.n o.rec_.c] 43))) := ⟨hv.below ha, ha.mono hb, KeepN.below ha⟩
  have HX0 := hid (Box.new w #[.int .i64 (o.num : Int), .string o.rec_.key, .int .i64 o.rec_.v.kind, .int .i64 o.rec_.v.int, .string o.rec_.v.text, .slice o.rec_.v.p o.rec_.v.n o.rec_.v.c, .slice o.rec_.p o.rec_.n o.rec_.c] 43)
  have hs0 := HL0.out.bel.size
  unfold OT.val
  clear ha hv
  have hz0 := hz
  have c0_1 := HX0.out.cell 0
  have c1_1 := HX0.out.cell 1
  have c2_1 := HX0.out.cell 2
  have c3_1 := HX0.out.cell 3
  have c4_1 := HX0.out.cell 4
  have c5_1 := HX0.out.cell 5
  have c6_1 := HX0.out.cell 6
  simp only [List.getElem?_toArray, List.getElem?_cons_zero, List.getElem?_cons_succ] at c0_1 c1_1 c2_1 c3_1 c4_1 c5_1 c6_1
  go_enter Try.func63, Try.ntmps63
  have HRow : Hid ((w.alloc (.cells #[.int .i64 (o.num : Int), .string o.rec_.key, .int .i64 o.rec_.v.kind, .int .i64 o.rec_.v.int, .string o.rec_.v.text, .slice o.rec_.v.p o.rec_.v.n o.rec_.v.c, .slice o.rec_.p o.rec_.n o.rec_.c] 43)).ownsRow base 5 1 v (zs).length ((zs).map (Value.int .u8))) := HL0.out.own
  have hnew := cell_one_new (w.alloc (.cells #[.int .i64 (o.num : Int), .string o.rec_.key, .int .i64 o.rec_.v.kind, .int .i64 o.rec_.v.int, .string o.rec_.v.text, .slice o.rec_.v.p o.rec_.v.n o.rec_.v.c, .slice o.rec_.p o.rec_.n o.rec_.c] 43)) (.int .u8 79) 5
  rw [show (w.alloc (.cells #[.int .i64 (o.num : Int), .string o.rec_.key, .int .i64 o.rec_.v.kind, .int .i64 o.rec_.v.int, .string o.rec_.v.text, .slice o.rec_.v.p o.rec_.v.n o.rec_.v.c, .slice o.rec_.p o.rec_.n o.rec_.c] 43)).heap.size = w.heap.size + 1 by simp] at hnew
  have HNew := hid hnew
  clear hnew
  go_wp2_with (at_builtin; refine wpList_app rfl (.tmp 5) (.tmp 6) 47 5 i0 _ 1 1 HKd.out rfl base v (zs).length _ rfl (HRow.out.alloc _) ⟨w.heap.size + 1, 0, none⟩ 1 1 [.int .u8 79] rfl rfl HNew.out (one8 _) (by omega) (by omega) (by simp; omega) ?_)
  intro v1 V1 ho1 hg1 hn1
  have HL1 : Hid (LayB base w (zs ++ [79]) v1 V1) := HL0.out.one (by omega) ho1 hg1
  have HX1 := hid (((KeepN.below ((Below.refl _ _).alloc (Nat.le_refl _) (.cells #[.int .u8 79] 5))).trans (KeepN.grown (HL0.out.own.below ((Below.refl _ _).alloc (Nat.le_refl _) _)) hg1)).box (by decide) HX0.out)
  clear ho1 hg1 hn1 HRow HNew c0_1 c1_1 c2_1 c3_1 c4_1 c5_1 c6_1
  have hs1 := HL1.out.bel.size
  have hbd1 : ([79]).length ≤ 1 := by simp
  have hz1 : (zs ++ [79]).length ≤ 50000000 + 1 := by rw [List.length_append]; omega
  have c0_2 := HX1.out.cell 0
  have c1_2 := HX1.out.cell 1
  have c2_2 := HX1.out.cell 2
  have c3_2 := HX1.out.cell 3
  have c4_2 := HX1.out.cell 4
  have c5_2 := HX1.out.cell 5
  have c6_2 := HX1.out.cell 6
  simp only [List.getElem?_toArray, List.getElem?_cons_zero, List.getElem?_cons_succ] at c0_2 c1_2 c2_2 c3_2 c4_2 c5_2 c6_2
  have HC2 := hid (wpNumber_any o.num (by omega) base V1 v1 (zs ++ [79]) HL1.out.own (by omega) (by omega))
  go_wp2_with fail
  refine HC2.out.mono ?_
  rintro x2 V2 ⟨v2, rfl, h2⟩
  have HL2 := hid (h2.lift HL1.out.bel HL1.out.keep)
  have HX2 := hid (h2.keep.box (by decide) HX1.out)
  clear h2 HC2 c0_2 c1_2 c2_2 c3_2 c4_2 c5_2 c6_2
  have hs2 := HL2.out.bel.size
  have hbd2 : (grpB o.num).length ≤ 10 := grp_len_small (by omega)
  have hz2 : ((zs ++ [79]) ++ grpB o.num).length ≤ 50000000 + 11 := by rw [List.length_append]; omega
  have c0_3 := HX2.out.cell 0
  have c1_3 := HX2.out.cell 1
  have c2_3 := HX2.out.cell 2
  have c3_3 := HX2.out.cell 3
  have c4_3 := HX2.out.cell 4
  have c5_3 := HX2.out.cell 5
  have c6_3 := HX2.out.cell 6
  simp only [List.getElem?_toArray, List.getElem?_cons_zero, List.getElem?_cons_succ] at c0_3 c1_3 c2_3 c3_3 c4_3 c5_3 c6_3
  have HC3 := hid (wpRec_any o.rec_ hr base V2 v2 ((zs ++ [79]) ++ grpB o.num) HL2.out.own (by omega) (hin.kept HL2.out.bel.size fun b hb2 _ => HL2.out.bel.block b hb2) (by omega))
  go_wp2_with fail
  refine HC3.out.mono ?_
  rintro x3 V3 ⟨v3, rfl, h3⟩
  have HL3 := hid (h3.lift HL2.out.bel HL2.out.keep)
  have HX3 := hid (h3.keep.box (by decide) HX2.out)
  clear h3 HC3 c0_3 c1_3 c2_3 c3_3 c4_3 c5_3 c6_3
  have hs3 := HL3.out.bel.size
  have hbd3 : (recB o.rec_).length ≤ 2000 := recB_len hin hr
  have hz3 : (((zs ++ [79]) ++ grpB o.num) ++ recB o.rec_).length ≤ 50000000 + 2011 := by rw [List.length_append]; omega
  go_wp2
  go_ret
  refine ⟨_, rfl, ?_⟩
  have e : zs ++ outB o = (((zs ++ [79]) ++ grpB o.num) ++ recB o.rec_) := by simp [outB, List.append_assoc]
  rw [e]
  exact HL3.out
structure VG (g : GT) : Prop where
  id : g.id ≤ 9999
  task : g.task ≤ 11
  base : g.base ≤ 9999
  sum : g.sum < 4294967296
  st : g.base = 0 → VS g.st
  d : g.base ≠ 0 → VD g.d
  logs : VLs g.logs
  pend : VRs g.pend
def segB (g : GT) : List Int := 83 :: (grpB g.id ++ (grpB g.task ++ (grpB g.base ++ ((if g.base = 0 then stateB g.st else wordB g.sum ++ deltaB g.d) ++ (listB recsB g.logs.n g.logs.item ++ recsB g.pend)))))
theorem deltaB_len {w : World} {S : Nat → Prop} {d : DT} (h : DT.In w S d) (hd : VD d) : (deltaB d).length ≤ 500000 := by
  unfold deltaB
  rw [List.length_append, List.length_append]
  have := grp_len_small (n := d.num) (by have := hd.num; omega)
  have := cells_len h.set hd.set hd.sn
  have := gone_len hd.gone hd.gn
  omega
set_option maxHeartbeats 4000000 in
theorem wpSeg_any (g : GT) (hg : VG g) (base : Nat) (w : World) (v : Value) (zs : List Int) (hv : OwnBy base w v zs) (hb : base ≤ w.heap.size) (hin : GT.In w (fun b => b < base) g) (hz : zs.length ≤ 50000000) : Calls Try.prog 57 #[v, g.val] w fun e w' => EPost base w (zs ++ segB g) e w' := by
  obtain ⟨i0, Kd⟩ := kindB
  have HKd := hid Kd
  clear Kd
  have ha : Below w.heap.size w (w.alloc (.cells #[.int .i64 (g.id : Int), .int .i64 (g.task : Int), .int .i64 (g.base : Int), .int .u32 (g.sum : Int), .int .i64 g.st.num, .slice g.st.p g.st.n g.st.c, .int .i64 (g.d.num : Int), .slice g.d.set.p g.d.set.n g.d.set.c, .slice g.d.gone.p g.d.gone.n g.d.gone.c, .slice g.logs.p g.logs.n g.logs.c, .slice g.pend.p g.pend.n g.pend.c] 38)) := (Below.refl _ _).alloc (Nat.le_refl _) _
  have HL0 : Hid (LayB base w zs v (w.alloc (.cells #[.int .i64 (g.id : Int), .int .i64 (g.task : Int), .int .i64 (g.base : Int), .int .u32 (g.sum : Int), .int .i64 g.st.num, .slice g.st.p g.st.n g.st.c, .int .i64 (g.d.num : Int), .slice g.d.set.p g.d.set.n g.d.set.c, .slice g.d.gone.p g.d.gone.n g.d.gone.c, .slice g.logs.p g.logs.n g.logs.c, .slice g.pend.p g.pend.n g.pend.c] 38))) := ⟨hv.below ha, ha.mono hb, KeepN.below ha⟩
  have HX0 := hid (Box.new w #[.int .i64 (g.id : Int), .int .i64 (g.task : Int), .int .i64 (g.base : Int), .int .u32 (g.sum : Int), .int .i64 g.st.num, .slice g.st.p g.st.n g.st.c, .int .i64 (g.d.num : Int), .slice g.d.set.p g.d.set.n g.d.set.c, .slice g.d.gone.p g.d.gone.n g.d.gone.c, .slice g.logs.p g.logs.n g.logs.c, .slice g.pend.p g.pend.n g.pend.c] 38)
  have hs0 := HL0.out.bel.size
  unfold GT.val
  clear ha hv
  have hz0 := hz
  have c0_1 := HX0.out.cell 0
  have c1_1 := HX0.out.cell 1
  have c2_1 := HX0.out.cell 2
  have c3_1 := HX0.out.cell 3
  have c4_1 := HX0.out.cell 4
  have c5_1 := HX0.out.cell 5
  have c6_1 := HX0.out.cell 6
  have c7_1 := HX0.out.cell 7
  have c8_1 := HX0.out.cell 8
  have c9_1 := HX0.out.cell 9
  have c10_1 := HX0.out.cell 10
  simp only [List.getElem?_toArray, List.getElem?_cons_zero, List.getElem?_cons_succ] at c0_1 c1_1 c2_1 c3_1 c4_1 c5_1 c6_1 c7_1 c8_1 c9_1 c10_1
  go_enter Try.func57, Try.ntmps57
  have HRow : Hid ((w.alloc (.cells #[.int .i64 (g.id : Int), .int .i64 (g.task : Int), .int .i64 (g.base : Int), .int .u32 (g.sum : Int), .int .i64 g.st.num, .slice g.st.p g.st.n g.st.c, .int .i64 (g.d.num : Int), .slice g.d.set.p g.d.set.n g.d.set.c, .slice g.d.gone.p g.d.gone.n g.d.gone.c, .slice g.logs.p g.logs.n g.logs.c, .slice g.pend.p g.pend.n g.pend.c] 38)).ownsRow base 5 1 v (zs).length ((zs).map (Value.int .u8))) := HL0.out.own
  have hnew := cell_one_new (w.alloc (.cells #[.int .i64 (g.id : Int), .int .i64 (g.task : Int), .int .i64 (g.base : Int), .int .u32 (g.sum : Int), .int .i64 g.st.num, .slice g.st.p g.st.n g.st.c, .int .i64 (g.d.num : Int), .slice g.d.set.p g.d.set.n g.d.set.c, .slice g.d.gone.p g.d.gone.n g.d.gone.c, .slice g.logs.p g.logs.n g.logs.c, .slice g.pend.p g.pend.n g.pend.c] 38)) (.int .u8 83) 5
  rw [show (w.alloc (.cells #[.int .i64 (g.id : Int), .int .i64 (g.task : Int), .int .i64 (g.base : Int), .int .u32 (g.sum : Int), .int .i64 g.st.num, .slice g.st.p g.st.n g.st.c, .int .i64 (g.d.num : Int), .slice g.d.set.p g.d.set.n g.d.set.c, .slice g.d.gone.p g.d.gone.n g.d.gone.c, .slice g.logs.p g.logs.n g.logs.c, .slice g.pend.p g.pend.n g.pend.c] 38)).heap.size = w.heap.size + 1 by simp] at hnew
  have HNew := hid hnew
  clear hnew
  go_wp2_with (at_builtin; refine wpList_app rfl (.tmp 5) (.tmp 6) 47 5 i0 _ 1 1 HKd.out rfl base v (zs).length _ rfl (HRow.out.alloc _) ⟨w.heap.size + 1, 0, none⟩ 1 1 [.int .u8 83] rfl rfl HNew.out (one8 _) (by omega) (by omega) (by simp; omega) ?_)
  intro v1 V1 ho1 hg1 hn1
  have HL1 : Hid (LayB base w (zs ++ [83]) v1 V1) := HL0.out.one (by omega) ho1 hg1
  have HX1 := hid (((KeepN.below ((Below.refl _ _).alloc (Nat.le_refl _) (.cells #[.int .u8 83] 5))).trans (KeepN.grown (HL0.out.own.below ((Below.refl _ _).alloc (Nat.le_refl _) _)) hg1)).box (by decide) HX0.out)
  clear ho1 hg1 hn1 HRow HNew c0_1 c1_1 c2_1 c3_1 c4_1 c5_1 c6_1 c7_1 c8_1 c9_1 c10_1
  have hs1 := HL1.out.bel.size
  have hbd1 : ([83]).length ≤ 1 := by simp
  have hz1 : (zs ++ [83]).length ≤ 50000000 + 1 := by rw [List.length_append]; omega
  have c0_2 := HX1.out.cell 0
  have c1_2 := HX1.out.cell 1
  have c2_2 := HX1.out.cell 2
  have c3_2 := HX1.out.cell 3
  have c4_2 := HX1.out.cell 4
  have c5_2 := HX1.out.cell 5
  have c6_2 := HX1.out.cell 6
  have c7_2 := HX1.out.cell 7
  have c8_2 := HX1.out.cell 8
  have c9_2 := HX1.out.cell 9
  have c10_2 := HX1.out.cell 10
  simp only [List.getElem?_toArray, List.getElem?_cons_zero, List.getElem?_cons_succ] at c0_2 c1_2 c2_2 c3_2 c4_2 c5_2 c6_2 c7_2 c8_2 c9_2 c10_2
  have HC2 := hid (wpNumber_any g.id (by have := hg.id; omega) base V1 v1 (zs ++ [83]) HL1.out.own (by omega) (by omega))
  go_wp2_with fail
  refine HC2.out.mono ?_
  rintro x2 V2 ⟨v2, rfl, h2⟩
  have HL2 := hid (h2.lift HL1.out.bel HL1.out.keep)
  have HX2 := hid (h2.keep.box (by decide) HX1.out)
  clear h2 HC2 c0_2 c1_2 c2_2 c3_2 c4_2 c5_2 c6_2 c7_2 c8_2 c9_2 c10_2
  have hs2 := HL2.out.bel.size
  have hbd2 : (grpB g.id).length ≤ 10 := grp_len_small (by have := hg.id; omega)
  have hz2 : ((zs ++ [83]) ++ grpB g.id).length ≤ 50000000 + 11 := by rw [List.length_append]; omega
  have c0_3 := HX2.out.cell 0
  have c1_3 := HX2.out.cell 1
  have c2_3 := HX2.out.cell 2
  have c3_3 := HX2.out.cell 3
  have c4_3 := HX2.out.cell 4
  have c5_3 := HX2.out.cell 5
  have c6_3 := HX2.out.cell 6
  have c7_3 := HX2.out.cell 7
  have c8_3 := HX2.out.cell 8
  have c9_3 := HX2.out.cell 9
  have c10_3 := HX2.out.cell 10
  simp only [List.getElem?_toArray, List.getElem?_cons_zero, List.getElem?_cons_succ] at c0_3 c1_3 c2_3 c3_3 c4_3 c5_3 c6_3 c7_3 c8_3 c9_3 c10_3
  have HC3 := hid (wpNumber_any g.task (by have := hg.task; omega) base V2 v2 ((zs ++ [83]) ++ grpB g.id) HL2.out.own (by omega) (by omega))
  go_wp2_with fail
  refine HC3.out.mono ?_
  rintro x3 V3 ⟨v3, rfl, h3⟩
  have HL3 := hid (h3.lift HL2.out.bel HL2.out.keep)
  have HX3 := hid (h3.keep.box (by decide) HX2.out)
  clear h3 HC3 c0_3 c1_3 c2_3 c3_3 c4_3 c5_3 c6_3 c7_3 c8_3 c9_3 c10_3
  have hs3 := HL3.out.bel.size
  have hbd3 : (grpB g.task).length ≤ 10 := grp_len_small (by have := hg.task; omega)
  have hz3 : (((zs ++ [83]) ++ grpB g.id) ++ grpB g.task).length ≤ 50000000 + 21 := by rw [List.length_append]; omega
  have c0_4 := HX3.out.cell 0
  have c1_4 := HX3.out.cell 1
  have c2_4 := HX3.out.cell 2
  have c3_4 := HX3.out.cell 3
  have c4_4 := HX3.out.cell 4
  have c5_4 := HX3.out.cell 5
  have c6_4 := HX3.out.cell 6
  have c7_4 := HX3.out.cell 7
  have c8_4 := HX3.out.cell 8
  have c9_4 := HX3.out.cell 9
  have c10_4 := HX3.out.cell 10
  simp only [List.getElem?_toArray, List.getElem?_cons_zero, List.getElem?_cons_succ] at c0_4 c1_4 c2_4 c3_4 c4_4 c5_4 c6_4 c7_4 c8_4 c9_4 c10_4
  have HC4 := hid (wpNumber_any g.base (by have := hg.base; omega) base V3 v3 (((zs ++ [83]) ++ grpB g.id) ++ grpB g.task) HL3.out.own (by omega) (by omega))
  go_wp2_with fail
  refine HC4.out.mono ?_
  rintro x4 V4 ⟨v4, rfl, h4⟩
  have HL4 := hid (h4.lift HL3.out.bel HL3.out.keep)
  have HX4 := hid (h4.keep.box (by decide) HX3.out)
  clear h4 HC4 c0_4 c1_4 c2_4 c3_4 c4_4 c5_4 c6_4 c7_4 c8_4 c9_4 c10_4
  have hs4 := HL4.out.bel.size
  have hbd4 : (grpB g.base).length ≤ 10 := grp_len_small (by have := hg.base; omega)
  have hz4 : ((((zs ++ [83]) ++ grpB g.id) ++ grpB g.task) ++ grpB g.base).length ≤ 50000000 + 31 := by rw [List.length_append]; omega
  cases hz9 : ((g.base : Int) == 0)
  · have hne : g.base ≠ 0 := by simpa using hz9
    have c0_5 := HX4.out.cell 0
    have c1_5 := HX4.out.cell 1
    have c2_5 := HX4.out.cell 2
    have c3_5 := HX4.out.cell 3
    have c4_5 := HX4.out.cell 4
    have c5_5 := HX4.out.cell 5
    have c6_5 := HX4.out.cell 6
    have c7_5 := HX4.out.cell 7
    have c8_5 := HX4.out.cell 8
    have c9_5 := HX4.out.cell 9
    have c10_5 := HX4.out.cell 10
    simp only [List.getElem?_toArray, List.getElem?_cons_zero, List.getElem?_cons_succ] at c0_5 c1_5 c2_5 c3_5 c4_5 c5_5 c6_5 c7_5 c8_5 c9_5 c10_5
    have HC5 := hid (wpWord_any g.sum hg.sum base V4 v4 ((((zs ++ [83]) ++ grpB g.id) ++ grpB g.task) ++ grpB g.base) HL4.out.own (by omega) (by omega))
    go_wp2_with fail
    refine HC5.out.mono ?_
    rintro x5 V5 ⟨v5, rfl, h5⟩
    have HL5 := hid (h5.lift HL4.out.bel HL4.out.keep)
    have HX5 := hid (h5.keep.box (by decide) HX4.out)
    clear h5 HC5 c0_5 c1_5 c2_5 c3_5 c4_5 c5_5 c6_5 c7_5 c8_5 c9_5 c10_5
    have hs5 := HL5.out.bel.size
    have hbd5 : (wordB g.sum).length ≤ 4 := wordB_len _
    have hz5 : (((((zs ++ [83]) ++ grpB g.id) ++ grpB g.task) ++ grpB g.base) ++ wordB g.sum).length ≤ 50000000 + 35 := by rw [List.length_append]; omega
    have c0_6 := HX5.out.cell 0
    have c1_6 := HX5.out.cell 1
    have c2_6 := HX5.out.cell 2
    have c3_6 := HX5.out.cell 3
    have c4_6 := HX5.out.cell 4
    have c5_6 := HX5.out.cell 5
    have c6_6 := HX5.out.cell 6
    have c7_6 := HX5.out.cell 7
    have c8_6 := HX5.out.cell 8
    have c9_6 := HX5.out.cell 9
    have c10_6 := HX5.out.cell 10
    simp only [List.getElem?_toArray, List.getElem?_cons_zero, List.getElem?_cons_succ] at c0_6 c1_6 c2_6 c3_6 c4_6 c5_6 c6_6 c7_6 c8_6 c9_6 c10_6
    have HC6 := hid (wpDelta_any g.d (hg.d hne) base V5 v5 (((((zs ++ [83]) ++ grpB g.id) ++ grpB g.task) ++ grpB g.base) ++ wordB g.sum) HL5.out.own (by omega) (hin.d.kept HL5.out.bel.size fun b hb2 _ => HL5.out.bel.block b hb2) (by omega))
    go_wp2_with fail
    refine HC6.out.mono ?_
    rintro x6 V6 ⟨v6, rfl, h6⟩
    have HL6 := hid (h6.lift HL5.out.bel HL5.out.keep)
    have HX6 := hid (h6.keep.box (by decide) HX5.out)
    clear h6 HC6 c0_6 c1_6 c2_6 c3_6 c4_6 c5_6 c6_6 c7_6 c8_6 c9_6 c10_6
    have hs6 := HL6.out.bel.size
    have hbd6 : (deltaB g.d).length ≤ 500000 := deltaB_len hin.d (hg.d hne)
    have hz6 : ((((((zs ++ [83]) ++ grpB g.id) ++ grpB g.task) ++ grpB g.base) ++ wordB g.sum) ++ deltaB g.d).length ≤ 50000000 + 500035 := by rw [List.length_append]; omega
    have c0_7 := HX6.out.cell 0
    have c1_7 := HX6.out.cell 1
    have c2_7 := HX6.out.cell 2
    have c3_7 := HX6.out.cell 3
    have c4_7 := HX6.out.cell 4
    have c5_7 := HX6.out.cell 5
    have c6_7 := HX6.out.cell 6
    have c7_7 := HX6.out.cell 7
    have c8_7 := HX6.out.cell 8
    have c9_7 := HX6.out.cell 9
    have c10_7 := HX6.out.cell 10
    simp only [List.getElem?_toArray, List.getElem?_cons_zero, List.getElem?_cons_succ] at c0_7 c1_7 c2_7 c3_7 c4_7 c5_7 c6_7 c7_7 c8_7 c9_7 c10_7
    have HC7 := hid (logs_put g.logs hg.logs base V6 v6 ((((((zs ++ [83]) ++ grpB g.id) ++ grpB g.task) ++ grpB g.base) ++ wordB g.sum) ++ deltaB g.d) HL6.out.own (by omega) (hin.logs.kept HL6.out.bel.size fun b hb2 _ => HL6.out.bel.block b hb2) (by omega))
    go_wp2_with fail
    refine HC7.out.mono ?_
    rintro x7 V7 ⟨v7, rfl, h7⟩
    have HL7 := hid (h7.lift HL6.out.bel HL6.out.keep)
    have HX7 := hid (h7.keep.box (by decide) HX6.out)
    clear h7 HC7 c0_7 c1_7 c2_7 c3_7 c4_7 c5_7 c6_7 c7_7 c8_7 c9_7 c10_7
    have hs7 := HL7.out.bel.size
    have hbd7 : (listB recsB g.logs.n g.logs.item).length ≤ 2500000 := logs_len hin.logs hg.logs
    have hz7 : (((((((zs ++ [83]) ++ grpB g.id) ++ grpB g.task) ++ grpB g.base) ++ wordB g.sum) ++ deltaB g.d) ++ listB recsB g.logs.n g.logs.item).length ≤ 50000000 + 3000035 := by rw [List.length_append]; omega
    have c0_8 := HX7.out.cell 0
    have c1_8 := HX7.out.cell 1
    have c2_8 := HX7.out.cell 2
    have c3_8 := HX7.out.cell 3
    have c4_8 := HX7.out.cell 4
    have c5_8 := HX7.out.cell 5
    have c6_8 := HX7.out.cell 6
    have c7_8 := HX7.out.cell 7
    have c8_8 := HX7.out.cell 8
    have c9_8 := HX7.out.cell 9
    have c10_8 := HX7.out.cell 10
    simp only [List.getElem?_toArray, List.getElem?_cons_zero, List.getElem?_cons_succ] at c0_8 c1_8 c2_8 c3_8 c4_8 c5_8 c6_8 c7_8 c8_8 c9_8 c10_8
    have HC8 := hid (wpRecs_any g.pend hg.pend base V7 v7 (((((((zs ++ [83]) ++ grpB g.id) ++ grpB g.task) ++ grpB g.base) ++ wordB g.sum) ++ deltaB g.d) ++ listB recsB g.logs.n g.logs.item) HL7.out.own (by omega) (hin.pend.kept HL7.out.bel.size fun b hb2 _ => HL7.out.bel.block b hb2) (by omega))
    go_wp2_with fail
    refine HC8.out.mono ?_
    rintro x8 V8 ⟨v8, rfl, h8⟩
    have HL8 := hid (h8.lift HL7.out.bel HL7.out.keep)
    have HX8 := hid (h8.keep.box (by decide) HX7.out)
    clear h8 HC8 c0_8 c1_8 c2_8 c3_8 c4_8 c5_8 c6_8 c7_8 c8_8 c9_8 c10_8
    have hs8 := HL8.out.bel.size
    have hbd8 : (recsB g.pend).length ≤ 600000 := recsB_len hin.pend hg.pend
    have hz8 : ((((((((zs ++ [83]) ++ grpB g.id) ++ grpB g.task) ++ grpB g.base) ++ wordB g.sum) ++ deltaB g.d) ++ listB recsB g.logs.n g.logs.item) ++ recsB g.pend).length ≤ 50000000 + 3600035 := by rw [List.length_append]; omega
    go_wp2
    go_ret
    refine ⟨_, rfl, ?_⟩
    have e : zs ++ segB g = ((((((((zs ++ [83]) ++ grpB g.id) ++ grpB g.task) ++ grpB g.base) ++ wordB g.sum) ++ deltaB g.d) ++ listB recsB g.logs.n g.logs.item) ++ recsB g.pend) := by simp [segB, hne, List.append_assoc]
    rw [e]
    exact HL8.out
  · have heq : g.base = 0 := by simpa using hz9
    have c0_5 := HX4.out.cell 0
    have c1_5 := HX4.out.cell 1
    have c2_5 := HX4.out.cell 2
    have c3_5 := HX4.out.cell 3
    have c4_5 := HX4.out.cell 4
    have c5_5 := HX4.out.cell 5
    have c6_5 := HX4.out.cell 6
    have c7_5 := HX4.out.cell 7
    have c8_5 := HX4.out.cell 8
    have c9_5 := HX4.out.cell 9
    have c10_5 := HX4.out.cell 10
    simp only [List.getElem?_toArray, List.getElem?_cons_zero, List.getElem?_cons_succ] at c0_5 c1_5 c2_5 c3_5 c4_5 c5_5 c6_5 c7_5 c8_5 c9_5 c10_5
    have HC5 := hid (wpState_any g.st (hg.st heq) base V4 v4 ((((zs ++ [83]) ++ grpB g.id) ++ grpB g.task) ++ grpB g.base) HL4.out.own (by omega) ((ST.toLT hin.st.i hin.st.nil).kept HL4.out.bel.size fun b hb2 _ => HL4.out.bel.block b hb2) (by omega))
    go_wp2_with fail
    refine HC5.out.mono ?_
    rintro x5 V5 ⟨v5, rfl, h5⟩
    have HL5 := hid (h5.lift HL4.out.bel HL4.out.keep)
    have HX5 := hid (h5.keep.box (by decide) HX4.out)
    clear h5 HC5 c0_5 c1_5 c2_5 c3_5 c4_5 c5_5 c6_5 c7_5 c8_5 c9_5 c10_5
    have hs5 := HL5.out.bel.size
    have hbd5 : (stateB g.st).length ≤ 500000 := stateB_len (ST.toLT hin.st.i hin.st.nil) (hg.st heq)
    have hz5 : (((((zs ++ [83]) ++ grpB g.id) ++ grpB g.task) ++ grpB g.base) ++ stateB g.st).length ≤ 50000000 + 500031 := by rw [List.length_append]; omega
    have c0_6 := HX5.out.cell 0
    have c1_6 := HX5.out.cell 1
    have c2_6 := HX5.out.cell 2
    have c3_6 := HX5.out.cell 3
    have c4_6 := HX5.out.cell 4
    have c5_6 := HX5.out.cell 5
    have c6_6 := HX5.out.cell 6
    have c7_6 := HX5.out.cell 7
    have c8_6 := HX5.out.cell 8
    have c9_6 := HX5.out.cell 9
    have c10_6 := HX5.out.cell 10
    simp only [List.getElem?_toArray, List.getElem?_cons_zero, List.getElem?_cons_succ] at c0_6 c1_6 c2_6 c3_6 c4_6 c5_6 c6_6 c7_6 c8_6 c9_6 c10_6
    have HC6 := hid (logs_put g.logs hg.logs base V5 v5 (((((zs ++ [83]) ++ grpB g.id) ++ grpB g.task) ++ grpB g.base) ++ stateB g.st) HL5.out.own (by omega) (hin.logs.kept HL5.out.bel.size fun b hb2 _ => HL5.out.bel.block b hb2) (by omega))
    go_wp2_with fail
    refine HC6.out.mono ?_
    rintro x6 V6 ⟨v6, rfl, h6⟩
    have HL6 := hid (h6.lift HL5.out.bel HL5.out.keep)
    have HX6 := hid (h6.keep.box (by decide) HX5.out)
    clear h6 HC6 c0_6 c1_6 c2_6 c3_6 c4_6 c5_6 c6_6 c7_6 c8_6 c9_6 c10_6
    have hs6 := HL6.out.bel.size
    have hbd6 : (listB recsB g.logs.n g.logs.item).length ≤ 2500000 := logs_len hin.logs hg.logs
    have hz6 : ((((((zs ++ [83]) ++ grpB g.id) ++ grpB g.task) ++ grpB g.base) ++ stateB g.st) ++ listB recsB g.logs.n g.logs.item).length ≤ 50000000 + 3000031 := by rw [List.length_append]; omega
    have c0_7 := HX6.out.cell 0
    have c1_7 := HX6.out.cell 1
    have c2_7 := HX6.out.cell 2
    have c3_7 := HX6.out.cell 3
    have c4_7 := HX6.out.cell 4
    have c5_7 := HX6.out.cell 5
    have c6_7 := HX6.out.cell 6
    have c7_7 := HX6.out.cell 7
    have c8_7 := HX6.out.cell 8
    have c9_7 := HX6.out.cell 9
    have c10_7 := HX6.out.cell 10
    simp only [List.getElem?_toArray, List.getElem?_cons_zero, List.getElem?_cons_succ] at c0_7 c1_7 c2_7 c3_7 c4_7 c5_7 c6_7 c7_7 c8_7 c9_7 c10_7
    have HC7 := hid (wpRecs_any g.pend hg.pend base V6 v6 ((((((zs ++ [83]) ++ grpB g.id) ++ grpB g.task) ++ grpB g.base) ++ stateB g.st) ++ listB recsB g.logs.n g.logs.item) HL6.out.own (by omega) (hin.pend.kept HL6.out.bel.size fun b hb2 _ => HL6.out.bel.block b hb2) (by omega))
    go_wp2_with fail
    refine HC7.out.mono ?_
    rintro x7 V7 ⟨v7, rfl, h7⟩
    have HL7 := hid (h7.lift HL6.out.bel HL6.out.keep)
    have HX7 := hid (h7.keep.box (by decide) HX6.out)
    clear h7 HC7 c0_7 c1_7 c2_7 c3_7 c4_7 c5_7 c6_7 c7_7 c8_7 c9_7 c10_7
    have hs7 := HL7.out.bel.size
    have hbd7 : (recsB g.pend).length ≤ 600000 := recsB_len hin.pend hg.pend
    have hz7 : (((((((zs ++ [83]) ++ grpB g.id) ++ grpB g.task) ++ grpB g.base) ++ stateB g.st) ++ listB recsB g.logs.n g.logs.item) ++ recsB g.pend).length ≤ 50000000 + 3600031 := by rw [List.length_append]; omega
    go_wp2
    go_ret
    refine ⟨_, rfl, ?_⟩
    have e : zs ++ segB g = (((((((zs ++ [83]) ++ grpB g.id) ++ grpB g.task) ++ grpB g.base) ++ stateB g.st) ++ listB recsB g.logs.n g.logs.item) ++ recsB g.pend) := by simp [segB, heq, List.append_assoc]
    rw [e]
    exact HL7.out
end Go.Proofs.Ytikfpoabaaiegaa
