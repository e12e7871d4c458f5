import Derived.Test.YtikfpoabaaiegaaPack15
import Derived.Test.YtikfpoabaaiegaaStepC
namespace Go.Proofs.Ytikfpoabaaiegaa
open Go.RowKit
set_option maxRecDepth 8000
def hopB (i : Int) : List Int := grpB i.toNat
def valB (t : VT) : List Int := encB (cleanT t)
def recB (r : RT) : List Int := keyB r.key ++ (valB r.v ++ listB hopB r.n r.loop)
def cellB (t : VT) : List Int := keyB t.text ++ listB valB t.n t.item
theorem keyB_len {s : ByteArray} (h : s.size ≤ 1000) : (keyB s).length ≤ 1010 := by
  unfold keyB
  rw [List.length_append, txtB_len]
  have := grp_len_small (n := s.size) (by omega)
  omega
theorem valB_len {w : World} {S : Nat → Prop} {t : VT} (h : VT.In w S t) : (valB t).length ≤ 720 := clean_enc_len h
theorem hopB_len {i : Int} (h : i ≤ 9) : (hopB i).length ≤ 10 := grp_len_small (by omega)
/-- a record that can be written -/
structure VR (r : RT) : Prop where
  key : r.key.size ≤ 12
  n : r.n ≤ 3
  loop : ∀ j, j < r.n → 0 ≤ r.loop j ∧ r.loop j ≤ 9
theorem Ints.toLT {w : World} {S : Nat → Prop} {p : Option Addr} {n c : Nat} {f : Nat → Int} (h : Ints w S p n c f) : LT.In elInt w S ⟨p, n, c, f⟩ := by
  refine ⟨fun hn => ?_, h.fit, h.nc, h.nn, h.cc, h.nil⟩
  obtain ⟨b, o, e, hS, hl, ha⟩ := h.at_ hn
  refine ⟨b, o, e, hS, hl, fun j hj r u hu => ?_⟩
  have hr : r = 0 := by
    rcases r with _ | r
    · rfl
    · simp [elInt] at hu
  subst hr
  simp [elInt] at hu ⊢
  rw [← hu]
  exact ha j hj
theorem hops_put (l : LT Int) (base : Nat) (w : World) (v : Value) (zs : List Int) (hv : OwnBy base w v zs) (hb : base ≤ w.heap.size) (hin : LT.In elInt w (fun b => b < base) l) (hl : ∀ j, j < l.n → 0 ≤ l.item j ∧ l.item j ≤ 9) (hn : l.n ≤ 3) (hz : zs.length ≤ 85000000) :
    Calls Try.prog 115 #[v, .slice l.p l.n l.c, .func (.func 100) #[] #[]] w fun e w' => EPost base w (zs ++ listB hopB l.n l.item) e w' :=
  apInt (fun x => 0 ≤ x ∧ x ≤ 9) hopB 10 l base w v zs hv hb hin hl (fun j hj => hopB_len (hl j hj).2) (by omega) 90000000 (by omega) (by omega) (fun W x v2 ys hW ho _ hx hy => by
    have e : x = ((x.toNat : Nat) : Int) := by omega
    have h := wpNumber_any x.toNat (by omega) base W v2 ys ho hW (by omega)
    rw [← e] at h
    exact h)
theorem hops_len {r : RT} (h : VR r) : (listB hopB r.n r.loop).length ≤ 40 := by
  have h1 := listB_len (enc := hopB) (f := r.loop) (C := 10) (n := r.n) (by have := h.n; omega) (fun j hj => hopB_len (h.loop j hj).2)
  have := h.n
  omega
/-- the values of a cell as a list -/
theorem cell_vals {w : World} {S : Nat → Prop} {t : VT} (h : VT.In w S t) : LT.In elVal w S ⟨t.p, t.n, t.c, t.item⟩ := by
  have hf := h.fit
  refine ⟨fun hn => ?_, fun j hj => h.sub hj, hf.nc, hf.nn, hf.cc, hf.nil⟩
  obtain ⟨b, o, e, hS, hl, ha⟩ := h.at_ hn
  refine ⟨b, o, e, hS, hl, fun j hj r u hu => ?_⟩
  obtain ⟨a0, a1, a2, a3⟩ := ha j hj
  rcases r with _ | _ | _ | _ | r
  · simp [elVal, VT.cells] at hu; rw [← hu]; exact a0
  · simp [elVal, VT.cells] at hu; rw [← hu]; exact a1
  · simp [elVal, VT.cells] at hu; rw [← hu]; exact a2
  · simp [elVal, VT.cells] at hu; rw [← hu]; exact a3
  · simp [elVal, VT.cells] at hu
theorem vals_len {w : World} {S : Nat → Prop} {t : VT} (h : VT.In w S t) (hn : t.n ≤ 6) : (listB valB t.n t.item).length ≤ 5000 := by
  have h1 := listB_len (enc := valB) (f := t.item) (C := 720) (n := t.n) (by omega) (fun j hj => valB_len (h.sub hj))
  omega
theorem vals_put (t : VT) (base : Nat) (w : World) (v : Value) (zs : List Int) (hv : OwnBy base w v zs) (hb : base ≤ w.heap.size) (hin : VT.In w (fun b => b < base) t) (hn : t.n ≤ 6) (hz : zs.length ≤ 85000000) :
    Calls Try.prog 133 #[v, .slice t.p t.n t.c, .func (.func 114) #[] #[]] w fun e w' => EPost base w (zs ++ listB valB t.n t.item) e w' :=
  apVal (fun _ => True) valB 720 ⟨t.p, t.n, t.c, t.item⟩ base w v zs hv hb (cell_vals hin) (fun _ _ => trivial) (fun j hj => valB_len (hin.sub hj)) (show t.n ≤ 1000 by omega) 90000000 (by omega) (show zs.length + 10 + t.n * 720 ≤ 90000000 by omega) (fun W x v2 ys hW ho hx _ hy => wpValue_any x base W v2 ys ho hW hx (by omega))
set_option maxHeartbeats 4000000 in
theorem wpRec_any (r : RT) (hr : VR r) (base : Nat) (w : World) (v : Value) (zs : List Int) (hv : OwnBy base w v zs) (hb : base ≤ w.heap.size) (hin : RT.In w (fun b => b < base) r) (hz : zs.length ≤ 80000000) : Calls Try.prog 66 #[v, r.val] w fun e w' => EPost base w (zs ++ recB r) e w' := by
  obtain ⟨i0, Kd⟩ := kindB
  have HKd := hid Kd
  clear Kd
  have ha : Below w.heap.size w (w.alloc (.cells #[.string r.key, .int .i64 r.v.kind, .int .i64 r.v.int, .string r.v.text, .slice r.v.p r.v.n r.v.c, .slice r.p r.n r.c] 27)) := (Below.refl _ _).alloc (Nat.le_refl _) _
  have HL0 : Hid (LayB base w zs v (w.alloc (.cells #[.string r.key, .int .i64 r.v.kind, .int .i64 r.v.int, .string r.v.text, .slice r.v.p r.v.n r.v.c, .slice r.p r.n r.c] 27))) := ⟨hv.below ha, ha.mono hb, KeepN.below ha⟩
  have HX0 := hid (Box.new w #[.string r.key, .int .i64 r.v.kind, .int .i64 r.v.int, .string r.v.text, .slice r.v.p r.v.n r.v.c, .slice r.p r.n r.c] 27)
  have hs0 := HL0.out.bel.size
  unfold RT.val
  clear ha hv
  have hz0 := hz
  have c0_1 := HX0.out.cell 0
  have c1_1 := HX0.out.cell 1
  have c2_1 := HX0.out.cell 2
  have c3_1 := HX0.out.cell 3
  have c4_1 := HX0.out.cell 4
  have c5_1 := HX0.out.cell 5
  simp only [List.getElem?_toArray, List.getElem?_cons_zero, List.getElem?_cons_succ] at c0_1 c1_1 c2_1 c3_1 c4_1 c5_1
  have HC1 := hid (wpKey_any r.key (by have := hr.key; omega) base (w.alloc (.cells #[.string r.key, .int .i64 r.v.kind, .int .i64 r.v.int, .string r.v.text, .slice r.v.p r.v.n r.v.c, .slice r.p r.n r.c] 27)) v zs HL0.out.own (by omega) (by omega))
  go_enter Try.func66, Try.ntmps66
  go_wp2_with fail
  refine HC1.out.mono ?_
  rintro x1 V1 ⟨v1, rfl, h1⟩
  have HL1 := hid (h1.lift HL0.out.bel HL0.out.keep)
  have HX1 := hid (h1.keep.box (by decide) HX0.out)
  clear h1 HC1 c0_1 c1_1 c2_1 c3_1 c4_1 c5_1
  have hs1 := HL1.out.bel.size
  have hbd1 : (keyB r.key).length ≤ 1010 := keyB_len (by have := hr.key; omega)
  have hz1 : (zs ++ keyB r.key).length ≤ 80000000 + 1010 := by rw [List.length_append]; omega
  have c0_2 := HX1.out.cell 0
  have c1_2 := HX1.out.cell 1
  have c2_2 := HX1.out.cell 2
  have c3_2 := HX1.out.cell 3
  have c4_2 := HX1.out.cell 4
  have c5_2 := HX1.out.cell 5
  simp only [List.getElem?_toArray, List.getElem?_cons_zero, List.getElem?_cons_succ] at c0_2 c1_2 c2_2 c3_2 c4_2 c5_2
  have HC2 := hid (wpValue_any r.v base V1 v1 (zs ++ keyB r.key) HL1.out.own (by omega) (hin.kept HL1.out.bel.size fun b hb2 _ => HL1.out.bel.block b hb2).v (by omega))
  go_wp2_with fail
  refine HC2.out.mono ?_
  rintro x2 V2 ⟨v2, rfl, h2⟩
  have HL2 := hid (h2.lift HL1.out.bel HL1.out.keep)
  have HX2 := hid (h2.keep.box (by decide) HX1.out)
  clear h2 HC2 c0_2 c1_2 c2_2 c3_2 c4_2 c5_2
  have hs2 := HL2.out.bel.size
  have hbd2 : (valB r.v).length ≤ 720 := valB_len hin.v
  have hz2 : ((zs ++ keyB r.key) ++ valB r.v).length ≤ 80000000 + 1730 := by rw [List.length_append]; omega
  have c0_3 := HX2.out.cell 0
  have c1_3 := HX2.out.cell 1
  have c2_3 := HX2.out.cell 2
  have c3_3 := HX2.out.cell 3
  have c4_3 := HX2.out.cell 4
  have c5_3 := HX2.out.cell 5
  simp only [List.getElem?_toArray, List.getElem?_cons_zero, List.getElem?_cons_succ] at c0_3 c1_3 c2_3 c3_3 c4_3 c5_3
  have HC3 := hid (hops_put ⟨r.p, r.n, r.c, r.loop⟩ base V2 v2 ((zs ++ keyB r.key) ++ valB r.v) HL2.out.own (by omega) (Ints.toLT (hin.kept HL2.out.bel.size fun b hb2 _ => HL2.out.bel.block b hb2).l) hr.loop hr.n (by omega))
  go_wp2_with fail
  refine HC3.out.mono ?_
  rintro x3 V3 ⟨v3, rfl, h3⟩
  have HL3 := hid (h3.lift HL2.out.bel HL2.out.keep)
  have HX3 := hid (h3.keep.box (by decide) HX2.out)
  clear h3 HC3 c0_3 c1_3 c2_3 c3_3 c4_3 c5_3
  have hs3 := HL3.out.bel.size
  have hbd3 : (listB hopB r.n r.loop).length ≤ 40 := hops_len hr
  have hz3 : (((zs ++ keyB r.key) ++ valB r.v) ++ listB hopB r.n r.loop).length ≤ 80000000 + 1770 := by rw [List.length_append]; omega
  go_wp2
  go_ret
  refine ⟨_, rfl, ?_⟩
  have e : zs ++ recB r = (((zs ++ keyB r.key) ++ valB r.v) ++ listB hopB r.n r.loop) := by simp [recB, List.append_assoc]
  rw [e]
  exact HL3.out
set_option maxHeartbeats 4000000 in
theorem wpCell_any (t : VT) (ht : t.text.size ≤ 12) (hn : t.n ≤ 6) (base : Nat) (w : World) (v : Value) (zs : List Int) (hv : OwnBy base w v zs) (hb : base ≤ w.heap.size) (hin : VT.In w (fun b => b < base) t) (hz : zs.length ≤ 80000000) : Calls Try.prog 101 #[v, .agg #[.string t.text, .slice t.p t.n t.c]] w fun e w' => EPost base w (zs ++ cellB t) e w' := by
  have ha : Below w.heap.size w (w.alloc (.cells #[.string t.text, .slice t.p t.n t.c] 154)) := (Below.refl _ _).alloc (Nat.le_refl _) _
  have ha2 : Below w.heap.size w (w.alloc (.cells #[.string t.text, .slice t.p t.n t.c] 154)).drew := ha.drew
  have HL0 : Hid (LayB base w zs v (w.alloc (.cells #[.string t.text, .slice t.p t.n t.c] 154)).drew) := ⟨hv.below ha2, ha2.mono hb, KeepN.below ha2⟩
  have HX0 := hid ((Box.new w #[.string t.text, .slice t.p t.n t.c] 154).below (Below.refl _ _).drew)
  have hs0 : base ≤ (w.alloc (.cells #[.string t.text, .slice t.p t.n t.c] 154)).drew.heap.size := Nat.le_trans hb ha2.size
  have hbd1 : (keyB t.text).length ≤ 1010 := keyB_len (by omega)
  have HC1 := hid (wpKey_any t.text (by omega) base (w.alloc (.cells #[.string t.text, .slice t.p t.n t.c] 154)).drew v zs HL0.out.own (by omega) (by omega))
  have HC2 : Hid (∀ W v1, LayB base w (zs ++ keyB t.text) v1 W → Calls Try.prog 133 #[v1, .slice t.p t.n t.c, .func (.func 114) #[] #[]] W fun e w' => EPost base W ((zs ++ keyB t.text) ++ listB valB t.n t.item) e w') := fun W v1 h1 => vals_put t base W v1 (zs ++ keyB t.text) h1.own (Nat.le_trans hb h1.bel.size) (hin.kept h1.bel.size fun b hb2 _ => h1.bel.block b hb2) hn (by rw [List.length_append]; omega)
  have c0 := HX0.out.cell 0
  have c1 := HX0.out.cell 1
  simp only [List.getElem?_toArray, List.getElem?_cons_zero, List.getElem?_cons_succ] at c0 c1
  clear ha ha2 hv
  go_enter Try.func101, Try.ntmps101
  go_wp2_with fail
  go_region_law (first
    | (refine step_call rfl 113 #[.tmp 5, .tmp 7] _ rfl Try.f113 Try.func113 (by kernel_rfl) rfl #[v, .string t.text] rfl _ HC1.out ?_
       rintro e1 w2 ⟨v1, rfl, h1⟩
       refine ⟨_, rfl, ?_⟩
       have h2 := h1.lift HL0.out.bel HL0.out.keep
       have hx2 := h1.keep.box (by decide) HX0.out
       have y0 := hx2.cell 0
       have y1 := hx2.cell 1
       simp only [List.getElem?_toArray, List.getElem?_cons_zero, List.getElem?_cons_succ] at y0 y1)
    | (refine step_call rfl 133 #[.tmp 8, .tmp 10, .func 114] _ rfl Try.f133 Try.func133 (by kernel_rfl) rfl #[v1, .slice t.p t.n t.c, .func (.func 114) #[] #[]] rfl _ (HC2.out _ _ h2) ?_
       rintro e3 w3 ⟨v3, rfl, h3⟩
       refine ⟨_, rfl, ?_⟩
       have HF := hid (h3.lift h2.bel h2.keep)
       clear h3))
  all_goals
    clear h1 h2 hx2
    go_wp2
    go_ret
    refine ⟨_, rfl, ?_⟩
    have e : zs ++ cellB t = (zs ++ keyB t.text) ++ listB valB t.n t.item := by simp [cellB, List.append_assoc]
    rw [e]
    exact HF.out
end Go.Proofs.Ytikfpoabaaiegaa

namespace Go.Proofs.Ytikfpoabaaiegaa
open Go.RowKit
set_option maxRecDepth 8000
set_option maxHeartbeats 4000000 in
theorem apCell (P : VT → Prop) (enc : VT → List Int) (C : Nat) (l : LT (VT)) (base : Nat) (w : World) (v : Value) (zs : List Int) (hv : OwnBy base w v zs) (hb : base ≤ w.heap.size) (hin : LT.In elCell w (fun b => b < base) l) (hP : ∀ j, j < l.n → P (l.item j)) (hC : ∀ j, j < l.n → (enc (l.item j)).length ≤ C) (hn : l.n ≤ 1000) (M : Nat) (hM0 : M ≤ 90000000) (hM : zs.length + 10 + l.n * C ≤ M)
    (HIt : ∀ (W : World) (x : VT) (v2 : Value) (ys : List Int), base ≤ W.heap.size → OwnBy base W v2 ys → (elCell).In W (fun b => b < base) x → P x → ys.length ≤ M → Calls Try.prog 101 #[v2, .agg #[.string x.text, .slice x.p x.n x.c]] W fun e W' => EPost base W (ys ++ enc x) e W') :
    Calls Try.prog 99 #[v, .slice l.p l.n l.c, .func (.func 101) #[] #[]] w fun e w' => EPost base w (zs ++ listB enc l.n l.item) e w' := by
  have HN := hid (wpNumber_any l.n (by omega) base w v zs hv hb (by omega))
  have hgl := grp_len_small (n := l.n) (by omega)
  have HIn := hid hin
  have HP := hid hP
  have HIt := hid HIt
  have HCl : Hid (∀ j, j ≤ l.n → ((zs ++ grpB l.n) ++ (List.range j).flatMap fun j => enc (l.item j)).length ≤ M) := fun j hj => by
    have h1 := listB_part enc l.item C j (fun i hi => hC i (by omega))
    have h2 : j * C ≤ l.n * C := Nat.mul_le_mul hj (Nat.le_refl _)
    simp only [List.length_append]
    omega
  have E : Hid (zs ++ listB enc l.n l.item = (zs ++ grpB l.n) ++ (List.range l.n).flatMap fun j => enc (l.item j)) := by unfold Hid listB; rw [List.append_assoc]
  obtain ⟨p, n, c, item⟩ := l
  simp only at *
  clear hv hin hP hC
  go_enter Try.func99, Try.ntmps99
  go_wp2_with fail
  refine HN.out.mono ?_
  rintro x w1 ⟨v1, rfl, h1⟩
  have H1 := hid h1
  clear h1 HN
  go_wp2_with fail
  go_loopw [0, 15] (fun v x wr => ∃ j : Nat, j ≤ n ∧ x = .int .i64 j ∧ LayB base w ((zs ++ grpB n) ++ (List.range j).flatMap fun j => enc (item j)) v wr) (fun _ x _ => n - (intOf x).toNat)
  case atStart => exact ⟨0, Nat.zero_le _, rfl, by simpa using H1.out⟩
  case round =>
    obtain ⟨j, hj, rfl, hLj⟩ := hrel
    have hsj := hLj.bel.size
    by_cases hlt : j < n
    · have hlt' : (j : Int) < (n : Int) := by omega
      obtain ⟨bb, o, hp, hSb, hbl, hat⟩ := HIn.out.at_ (show 0 < n by omega)
      simp only at hp
      subst hp
      have hca : ∀ r u, ((elCell).cells (item j))[r]? = some u → wr.cell? ⟨bb, o + j * 2 + r, none⟩ = some u := fun r u hu => (World.cell?_of_block (a := ⟨bb, o + j * 2 + r, none⟩) (hLj.bel.block bb hSb)).trans (hat j hlt r u hu)
      have d0 := hca 0 _ rfl
      have d1 := hca 1 _ rfl
      simp only [Nat.add_zero] at d0
      have hlen := HCl.out j (by omega)
      obtain ⟨Q, hM2⟩ : ∃ Q, Q = (zs ++ grpB n) ++ (List.range j).flatMap fun j => enc (item j) := ⟨_, rfl⟩
      rw [← hM2] at hLj hlen
      have HM2 : Hid (Q ++ enc (item j) = (zs ++ grpB n) ++ (List.range (j + 1)).flatMap fun j => enc (item j)) := by unfold Hid; rw [hM2, List.range_succ, List.flatMap_append]; simp
      have ha : Below wr.heap.size wr (wr.alloc (.cells #[.string (item j).text, .slice (item j).p (item j).n (item j).c] 154)) := (Below.refl _ _).alloc (Nat.le_refl _) _
      have HC := hid (HIt.out (wr.alloc (.cells #[.string (item j).text, .slice (item j).p (item j).n (item j).c] 154)) (item j) u0 Q (by have := ha.size; omega) (hLj.own.below ha) ((elCell).kept ((elCell).kept (HIn.out.each j hlt) hLj.bel.size fun b hb _ => hLj.bel.block b hb) ha.size fun b _ hl => ha.block b hl) (HP.out j hlt) hlen)
      have HLj := hid (hLj.bel.trans (ha.mono (by omega)))
      have HKj := hid (hLj.keep.trans (KeepN.below ha))
      clear hat hLj hM2 ha hca hlen
      go_wp2_with fail
      refine HC.out.mono ?_
      intro e3 w3 hP3
      obtain ⟨v3, rfl, h3⟩ := hP3
      have HF := hid (h3.lift HLj.out HKj.out)
      clear h3 HC d0 d1
      go_wp2
      go_roundw
      case rel => exact ⟨j + 1, by omega, by go_num, HM2.out ▸ HF.out⟩
      case measure => simp [intOf]; omega
    · have hje : j = n := by omega
      have hlt' : ¬ (j : Int) < (n : Int) := by omega
      rw [hje] at hLj
      have HF := hid hLj
      clear hLj
      go_wp2
      go_ret
      exact ⟨_, rfl, by rw [E.out]; exact HF.out⟩
end Go.Proofs.Ytikfpoabaaiegaa

namespace Go.Proofs.Ytikfpoabaaiegaa
open Go.RowKit
set_option maxRecDepth 8000
set_option maxHeartbeats 4000000 in
theorem apRec (P : RT → Prop) (enc : RT → List Int) (C : Nat) (l : LT (RT)) (base : Nat) (w : World) (v : Value) (zs : List Int) (hv : OwnBy base w v zs) (hb : base ≤ w.heap.size) (hin : LT.In elRec w (fun b => b < base) l) (hP : ∀ j, j < l.n → P (l.item j)) (hC : ∀ j, j < l.n → (enc (l.item j)).length ≤ C) (hn : l.n ≤ 1000) (M : Nat) (hM0 : M ≤ 90000000) (hM : zs.length + 10 + l.n * C ≤ M)
    (HIt : ∀ (W : World) (x : RT) (v2 : Value) (ys : List Int), base ≤ W.heap.size → OwnBy base W v2 ys → (elRec).In W (fun b => b < base) x → P x → ys.length ≤ M → Calls Try.prog 66 #[v2, .agg #[.string x.key, .int .i64 x.v.kind, .int .i64 x.v.int, .string x.v.text, .slice x.v.p x.v.n x.v.c, .slice x.p x.n x.c]] W fun e W' => EPost base W (ys ++ enc x) e W') :
    Calls Try.prog 136 #[v, .slice l.p l.n l.c, .func (.func 66) #[] #[]] w fun e w' => EPost base w (zs ++ listB enc l.n l.item) e w' := by
  have HN := hid (wpNumber_any l.n (by omega) base w v zs hv hb (by omega))
  have hgl := grp_len_small (n := l.n) (by omega)
  have HIn := hid hin
  have HP := hid hP
  have HIt := hid HIt
  have HCl : Hid (∀ j, j ≤ l.n → ((zs ++ grpB l.n) ++ (List.range j).flatMap fun j => enc (l.item j)).length ≤ M) := fun j hj => by
    have h1 := listB_part enc l.item C j (fun i hi => hC i (by omega))
    have h2 : j * C ≤ l.n * C := Nat.mul_le_mul hj (Nat.le_refl _)
    simp only [List.length_append]
    omega
  have E : Hid (zs ++ listB enc l.n l.item = (zs ++ grpB l.n) ++ (List.range l.n).flatMap fun j => enc (l.item j)) := by unfold Hid listB; rw [List.append_assoc]
  obtain ⟨p, n, c, item⟩ := l
  simp only at *
  clear hv hin hP hC
  go_enter Try.func136, Try.ntmps136
  go_wp2_with fail
  refine HN.out.mono ?_
  rintro x w1 ⟨v1, rfl, h1⟩
  have H1 := hid h1
  clear h1 HN
  go_wp2_with fail
  go_loopw [0, 15] (fun v x wr => ∃ j : Nat, j ≤ n ∧ x = .int .i64 j ∧ LayB base w ((zs ++ grpB n) ++ (List.range j).flatMap fun j => enc (item j)) v wr) (fun _ x _ => n - (intOf x).toNat)
  case atStart => exact ⟨0, Nat.zero_le _, rfl, by simpa using H1.out⟩
  case round =>
    obtain ⟨j, hj, rfl, hLj⟩ := hrel
    have hsj := hLj.bel.size
    by_cases hlt : j < n
    · have hlt' : (j : Int) < (n : Int) := by omega
      obtain ⟨bb, o, hp, hSb, hbl, hat⟩ := HIn.out.at_ (show 0 < n by omega)
      simp only at hp
      subst hp
      have hca : ∀ r u, ((elRec).cells (item j))[r]? = some u → wr.cell? ⟨bb, o + j * 6 + r, none⟩ = some u := fun r u hu => (World.cell?_of_block (a := ⟨bb, o + j * 6 + r, none⟩) (hLj.bel.block bb hSb)).trans (hat j hlt r u hu)
      have d0 := hca 0 _ rfl
      have d1 := hca 1 _ rfl
      have d2 := hca 2 _ rfl
      have d3 := hca 3 _ rfl
      have d4 := hca 4 _ rfl
      have d5 := hca 5 _ rfl
      simp only [Nat.add_zero] at d0
      have hlen := HCl.out j (by omega)
      obtain ⟨Q, hM2⟩ : ∃ Q, Q = (zs ++ grpB n) ++ (List.range j).flatMap fun j => enc (item j) := ⟨_, rfl⟩
      rw [← hM2] at hLj hlen
      have HM2 : Hid (Q ++ enc (item j) = (zs ++ grpB n) ++ (List.range (j + 1)).flatMap fun j => enc (item j)) := by unfold Hid; rw [hM2, List.range_succ, List.flatMap_append]; simp
      have ha : Below wr.heap.size wr (wr.alloc (.cells #[.string (item j).key, .int .i64 (item j).v.kind, .int .i64 (item j).v.int, .string (item j).v.text, .slice (item j).v.p (item j).v.n (item j).v.c, .slice (item j).p (item j).n (item j).c] 27)) := (Below.refl _ _).alloc (Nat.le_refl _) _
      have HC := hid (HIt.out (wr.alloc (.cells #[.string (item j).key, .int .i64 (item j).v.kind, .int .i64 (item j).v.int, .string (item j).v.text, .slice (item j).v.p (item j).v.n (item j).v.c, .slice (item j).p (item j).n (item j).c] 27)) (item j) u0 Q (by have := ha.size; omega) (hLj.own.below ha) ((elRec).kept ((elRec).kept (HIn.out.each j hlt) hLj.bel.size fun b hb _ => hLj.bel.block b hb) ha.size fun b _ hl => ha.block b hl) (HP.out j hlt) hlen)
      have HLj := hid (hLj.bel.trans (ha.mono (by omega)))
      have HKj := hid (hLj.keep.trans (KeepN.below ha))
      clear hat hLj hM2 ha hca hlen
      go_wp2_with fail
      refine HC.out.mono ?_
      intro e3 w3 hP3
      obtain ⟨v3, rfl, h3⟩ := hP3
      have HF := hid (h3.lift HLj.out HKj.out)
      clear h3 HC d0 d1 d2 d3 d4 d5
      go_wp2
      go_roundw
      case rel => exact ⟨j + 1, by omega, by go_num, HM2.out ▸ HF.out⟩
      case measure => simp [intOf]; omega
    · have hje : j = n := by omega
      have hlt' : ¬ (j : Int) < (n : Int) := by omega
      rw [hje] at hLj
      have HF := hid hLj
      clear hLj
      go_wp2
      go_ret
      exact ⟨_, rfl, by rw [E.out]; exact HF.out⟩
end Go.Proofs.Ytikfpoabaaiegaa

namespace Go.Proofs.Ytikfpoabaaiegaa
open Go.RowKit
set_option maxRecDepth 8000
set_option maxHeartbeats 4000000 in
theorem apRecs (P : LT RT → Prop) (enc : LT RT → List Int) (C : Nat) (l : LT (LT RT)) (base : Nat) (w : World) (v : Value) (zs : List Int) (hv : OwnBy base w v zs) (hb : base ≤ w.heap.size) (hin : LT.In elRecs w (fun b => b < base) l) (hP : ∀ j, j < l.n → P (l.item j)) (hC : ∀ j, j < l.n → (enc (l.item j)).length ≤ C) (hn : l.n ≤ 1000) (M : Nat) (hM0 : M ≤ 90000000) (hM : zs.length + 10 + l.n * C ≤ M)
    (HIt : ∀ (W : World) (x : LT RT) (v2 : Value) (ys : List Int), base ≤ W.heap.size → OwnBy base W v2 ys → (elRecs).In W (fun b => b < base) x → P x → ys.length ≤ M → Calls Try.prog 109 #[v2, .slice x.p x.n x.c] W fun e W' => EPost base W (ys ++ enc x) e W') :
    Calls Try.prog 108 #[v, .slice l.p l.n l.c, .func (.func 109) #[] #[]] w fun e w' => EPost base w (zs ++ listB enc l.n l.item) e w' := by
  have HN := hid (wpNumber_any l.n (by omega) base w v zs hv hb (by omega))
  have hgl := grp_len_small (n := l.n) (by omega)
  have HIn := hid hin
  have HP := hid hP
  have HIt := hid HIt
  have HCl : Hid (∀ j, j ≤ l.n → ((zs ++ grpB l.n) ++ (List.range j).flatMap fun j => enc (l.item j)).length ≤ M) := fun j hj => by
    have h1 := listB_part enc l.item C j (fun i hi => hC i (by omega))
    have h2 : j * C ≤ l.n * C := Nat.mul_le_mul hj (Nat.le_refl _)
    simp only [List.length_append]
    omega
  have E : Hid (zs ++ listB enc l.n l.item = (zs ++ grpB l.n) ++ (List.range l.n).flatMap fun j => enc (l.item j)) := by unfold Hid listB; rw [List.append_assoc]
  obtain ⟨p, n, c, item⟩ := l
  simp only at *
  clear hv hin hP hC
  go_enter Try.func108, Try.ntmps108
  go_wp2_with fail
  refine HN.out.mono ?_
  rintro x w1 ⟨v1, rfl, h1⟩
  have H1 := hid h1
  clear h1 HN
  go_wp2_with fail
  go_loopw [0, 15] (fun v x wr => ∃ j : Nat, j ≤ n ∧ x = .int .i64 j ∧ LayB base w ((zs ++ grpB n) ++ (List.range j).flatMap fun j => enc (item j)) v wr) (fun _ x _ => n - (intOf x).toNat)
  case atStart => exact ⟨0, Nat.zero_le _, rfl, by simpa using H1.out⟩
  case round =>
    obtain ⟨j, hj, rfl, hLj⟩ := hrel
    have hsj := hLj.bel.size
    by_cases hlt : j < n
    · have hlt' : (j : Int) < (n : Int) := by omega
      obtain ⟨bb, o, hp, hSb, hbl, hat⟩ := HIn.out.at_ (show 0 < n by omega)
      simp only at hp
      subst hp
      have hca : ∀ r u, ((elRecs).cells (item j))[r]? = some u → wr.cell? ⟨bb, o + j * 1 + r, none⟩ = some u := fun r u hu => (World.cell?_of_block (a := ⟨bb, o + j * 1 + r, none⟩) (hLj.bel.block bb hSb)).trans (hat j hlt r u hu)
      have d0 := hca 0 _ rfl
      simp only [Nat.add_zero, Nat.mul_one] at d0
      have hlen := HCl.out j (by omega)
      obtain ⟨Q, hM2⟩ : ∃ Q, Q = (zs ++ grpB n) ++ (List.range j).flatMap fun j => enc (item j) := ⟨_, rfl⟩
      rw [← hM2] at hLj hlen
      have HM2 : Hid (Q ++ enc (item j) = (zs ++ grpB n) ++ (List.range (j + 1)).flatMap fun j => enc (item j)) := by unfold Hid; rw [hM2, List.range_succ, List.flatMap_append]; simp
      have ha : Below wr.heap.size wr (wr) := Below.refl _ _
      have HC := hid (HIt.out (wr) (item j) u0 Q (by have := ha.size; omega) (hLj.own.below ha) ((elRecs).kept ((elRecs).kept (HIn.out.each j hlt) hLj.bel.size fun b hb _ => hLj.bel.block b hb) ha.size fun b _ hl => ha.block b hl) (HP.out j hlt) hlen)
      have HLj := hid (hLj.bel.trans (ha.mono (by omega)))
      have HKj := hid (hLj.keep.trans (KeepN.below ha))
      clear hat hLj hM2 ha hca hlen
      go_wp2_with fail
      refine HC.out.mono ?_
      intro e3 w3 hP3
      obtain ⟨v3, rfl, h3⟩ := hP3
      have HF := hid (h3.lift HLj.out HKj.out)
      clear h3 HC d0
      go_wp2
      go_roundw
      case rel => exact ⟨j + 1, by omega, by go_num, HM2.out ▸ HF.out⟩
      case measure => simp [intOf]; omega
    · have hje : j = n := by omega
      have hlt' : ¬ (j : Int) < (n : Int) := by omega
      rw [hje] at hLj
      have HF := hid hLj
      clear hLj
      go_wp2
      go_ret
      exact ⟨_, rfl, by rw [E.out]; exact HF.out⟩
end Go.Proofs.Ytikfpoabaaiegaa

namespace Go.Proofs.Ytikfpoabaaiegaa
open Go.RowKit
set_option maxRecDepth 8000
set_option maxHeartbeats 4000000 in
theorem apRow (P : Nat × Nat → Prop) (enc : Nat × Nat → List Int) (C : Nat) (l : LT (Nat × Nat)) (base : Nat) (w : World) (v : Value) (zs : List Int) (hv : OwnBy base w v zs) (hb : base ≤ w.heap.size) (hin : LT.In elRow w (fun b => b < base) l) (hP : ∀ j, j < l.n → P (l.item j)) (hC : ∀ j, j < l.n → (enc (l.item j)).length ≤ C) (hn : l.n ≤ 1000) (M : Nat) (hM0 : M ≤ 90000000) (hM : zs.length + 10 + l.n * C ≤ M)
    (HIt : ∀ (W : World) (x : Nat × Nat) (v2 : Value) (ys : List Int), base ≤ W.heap.size → OwnBy base W v2 ys → (elRow).In W (fun b => b < base) x → P x → ys.length ≤ M → Calls Try.prog 111 #[v2, .agg #[.int .i64 (x.1 : Int), .int .u32 (x.2 : Int)]] W fun e W' => EPost base W (ys ++ enc x) e W') :
    Calls Try.prog 110 #[v, .slice l.p l.n l.c, .func (.func 111) #[] #[]] w fun e w' => EPost base w (zs ++ listB enc l.n l.item) e w' := by
  have HN := hid (wpNumber_any l.n (by omega) base w v zs hv hb (by omega))
  have hgl := grp_len_small (n := l.n) (by omega)
  have HIn := hid hin
  have HP := hid hP
  have HIt := hid HIt
  have HCl : Hid (∀ j, j ≤ l.n → ((zs ++ grpB l.n) ++ (List.range j).flatMap fun j => enc (l.item j)).length ≤ M) := fun j hj => by
    have h1 := listB_part enc l.item C j (fun i hi => hC i (by omega))
    have h2 : j * C ≤ l.n * C := Nat.mul_le_mul hj (Nat.le_refl _)
    simp only [List.length_append]
    omega
  have E : Hid (zs ++ listB enc l.n l.item = (zs ++ grpB l.n) ++ (List.range l.n).flatMap fun j => enc (l.item j)) := by unfold Hid listB; rw [List.append_assoc]
  obtain ⟨p, n, c, item⟩ := l
  simp only at *
  clear hv hin hP hC
  go_enter Try.func110, Try.ntmps110
  go_wp2_with fail
  refine HN.out.mono ?_
  rintro x w1 ⟨v1, rfl, h1⟩
  have H1 := hid h1
  clear h1 HN
  go_wp2_with fail
  go_loopw [0, 15] (fun v x wr => ∃ j : Nat, j ≤ n ∧ x = .int .i64 j ∧ LayB base w ((zs ++ grpB n) ++ (List.range j).flatMap fun j => enc (item j)) v wr) (fun _ x _ => n - (intOf x).toNat)
  case atStart => exact ⟨0, Nat.zero_le _, rfl, by simpa using H1.out⟩
  case round =>
    obtain ⟨j, hj, rfl, hLj⟩ := hrel
    have hsj := hLj.bel.size
    by_cases hlt : j < n
    · have hlt' : (j : Int) < (n : Int) := by omega
      obtain ⟨bb, o, hp, hSb, hbl, hat⟩ := HIn.out.at_ (show 0 < n by omega)
      simp only at hp
      subst hp
      have hca : ∀ r u, ((elRow).cells (item j))[r]? = some u → wr.cell? ⟨bb, o + j * 2 + r, none⟩ = some u := fun r u hu => (World.cell?_of_block (a := ⟨bb, o + j * 2 + r, none⟩) (hLj.bel.block bb hSb)).trans (hat j hlt r u hu)
      have d0 := hca 0 _ rfl
      have d1 := hca 1 _ rfl
      simp only [Nat.add_zero] at d0
      have hlen := HCl.out j (by omega)
      obtain ⟨Q, hM2⟩ : ∃ Q, Q = (zs ++ grpB n) ++ (List.range j).flatMap fun j => enc (item j) := ⟨_, rfl⟩
      rw [← hM2] at hLj hlen
      have HM2 : Hid (Q ++ enc (item j) = (zs ++ grpB n) ++ (List.range (j + 1)).flatMap fun j => enc (item j)) := by unfold Hid; rw [hM2, List.range_succ, List.flatMap_append]; simp
      have ha : Below wr.heap.size wr (wr.alloc (.cells #[.int .i64 ((item j).1 : Int), .int .u32 ((item j).2 : Int)] 110)) := (Below.refl _ _).alloc (Nat.le_refl _) _
      have HC := hid (HIt.out (wr.alloc (.cells #[.int .i64 ((item j).1 : Int), .int .u32 ((item j).2 : Int)] 110)) (item j) u0 Q (by have := ha.size; omega) (hLj.own.below ha) ((elRow).kept ((elRow).kept (HIn.out.each j hlt) hLj.bel.size fun b hb _ => hLj.bel.block b hb) ha.size fun b _ hl => ha.block b hl) (HP.out j hlt) hlen)
      have HLj := hid (hLj.bel.trans (ha.mono (by omega)))
      have HKj := hid (hLj.keep.trans (KeepN.below ha))
      clear hat hLj hM2 ha hca hlen
      go_wp2_with fail
      refine HC.out.mono ?_
      intro e3 w3 hP3
      obtain ⟨v3, rfl, h3⟩ := hP3
      have HF := hid (h3.lift HLj.out HKj.out)
      clear h3 HC d0 d1
      go_wp2
      go_roundw
      case rel => exact ⟨j + 1, by omega, by go_num, HM2.out ▸ HF.out⟩
      case measure => simp [intOf]; omega
    · have hje : j = n := by omega
      have hlt' : ¬ (j : Int) < (n : Int) := by omega
      rw [hje] at hLj
      have HF := hid hLj
      clear hLj
      go_wp2
      go_ret
      exact ⟨_, rfl, by rw [E.out]; exact HF.out⟩
end Go.Proofs.Ytikfpoabaaiegaa
