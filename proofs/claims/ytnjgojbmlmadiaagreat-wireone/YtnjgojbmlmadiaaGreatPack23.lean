import Derived.Test.YtnjgojbmlmadiaaGreatPack22
import Derived.Test.YtnjgojbmlmadiaaGreatPack17
import Derived.Test.YtnjgojbmlmadiaaGreatPack14
namespace Go.Proofs.YtnjgojbmlmadiaaGreat
open Go.RowKit
set_option maxRecDepth 8000
/-- bytes, and no error -/
def PutP (B : List Int) (w : World) (x : Ending) (w' : World) : Prop := ∃ v, x = .returned (.tuple #[v, .int .i64 0]) ∧ OwnBy w.heap.size w' v B ∧ Below w.heap.size w w'
theorem OwnBy.mono {base base' : Nat} {w : World} {v : Value} {zs : List Int} (h : OwnBy base w v zs) (hb : base' ≤ base) : OwnBy base' w v zs := ownsRow_mono h hb
theorem vr_of {r : RT} (h : chkRec r = 0) : VR r := by
  unfold chkRec at h
  split at h
  · cases h
  rename_i h1
  split at h
  · rename_i h2; exact absurd h h2
  split at h
  · cases h
  rename_i h3
  refine ⟨by omega, by omega, fun j hj => ?_⟩
  have key : ∀ m, firstC (fun j => chkLoop (r.loop j)) m = 0 → ∀ i, i < m → chkLoop (r.loop i) = 0 := by
    intro m
    induction m with
    | zero => intro _ i hi; omega
    | succ m ih =>
      intro hm i hi
      have hm' : (if firstC (fun j => chkLoop (r.loop j)) m = 0 then chkLoop (r.loop m) else firstC (fun j => chkLoop (r.loop j)) m) = 0 := hm
      split at hm'
      · rename_i h5
        by_cases him : i = m
        · subst him; exact hm'
        · exact ih h5 i (by omega)
      · rename_i h5; exact absurd hm' h5
  have h4 := key _ h j hj
  unfold chkLoop at h4
  split at h4
  · cases h4
  · omega
set_option maxHeartbeats 4000000 in
theorem writtenRec (r : RT) (w : World) (S : Nat → Prop) (hin : RT.In w S r) (hr : chkRec r = 0) (hS : ∀ b, S b → b < w.heap.size) : Calls Tryz.prog 51 #[r.val, .int .i64 0, .func (.func 53) #[] #[]] w fun x w' => PutP (recB r) w x w' := by
  have ha : Below w.heap.size w (w.alloc (.cells #[.string r.key, .int .i64 r.v.kind, .int .i64 r.v.int, .string r.v.text, .slice r.v.p r.v.n r.v.c, .slice r.p r.n r.c] 27)) := (Below.refl _ _).alloc (Nat.le_refl _) _
  have HC : Hid (∀ W, Below (w.alloc (.cells #[.string r.key, .int .i64 r.v.kind, .int .i64 r.v.int, .string r.v.text, .slice r.v.p r.v.n r.v.c, .slice r.p r.n r.c] 27)).heap.size (w.alloc (.cells #[.string r.key, .int .i64 r.v.kind, .int .i64 r.v.int, .string r.v.text, .slice r.v.p r.v.n r.v.c, .slice r.p r.n r.c] 27)) W → Calls Tryz.prog 53 #[.slice none 0 0, r.val] W fun e w' => EPost (w.alloc (.cells #[.string r.key, .int .i64 r.v.kind, .int .i64 r.v.int, .string r.v.text, .slice r.v.p r.v.n r.v.c, .slice r.p r.n r.c] 27)).heap.size W ([] ++ recB r) e w') := fun W hW => wpRec_any r (vr_of hr) (w.alloc (.cells #[.string r.key, .int .i64 r.v.kind, .int .i64 r.v.int, .string r.v.text, .slice r.v.p r.v.n r.v.c, .slice r.p r.n r.c] 27)).heap.size W (.slice none 0 0) [] (World.ownsRow_nil _ _ _ _) hW.size (((hin.below ha).mono (fun b hb _ => by have := hS b hb; have := ha.size; omega)).below hW) (by simp)
  have HA := hid ha
  simp only [List.nil_append] at HC
  unfold RT.val at HC ⊢
  clear ha hS
  go_enter Tryz.func51, Tryz.ntmps51
  go_wp2_with fail
  refine (HC.out _ ?_).mono ?_
  · first | exact Below.refl _ _ | exact (Below.refl _ _).drew
  rintro x w1 ⟨v1, rfl, h1⟩
  have HO := hid (h1.own.mono HA.out.size)
  have HB := hid (HA.out.trans (h1.bel.mono HA.out.size))
  clear h1 HC
  go_wp2
  refine bodyPost_ret (v := .tuple #[v1, .int .i64 0]) (by simp [results, Tryz.results51, go_sem]) rfl ?_
  exact ⟨v1, rfl, HO.out, HB.out⟩
set_option maxHeartbeats 4000000 in
theorem putRec_any (r : RT) (w : World) (S : Nat → Prop) (hin : RT.In w S r) (hr : chkRec r = 0) (hS : ∀ b, S b → b < w.heap.size) : Calls Tryz.prog 23 #[r.val] w fun x w' => PutP (recB r) w x w' := by
  have ha : Below w.heap.size w (w.alloc (.cells #[.string r.key, .int .i64 r.v.kind, .int .i64 r.v.int, .string r.v.text, .slice r.v.p r.v.n r.v.c, .slice r.p r.n r.c] 27)) := (Below.refl _ _).alloc (Nat.le_refl _) _
  have HK : Hid (∀ W, Below (w.alloc (.cells #[.string r.key, .int .i64 r.v.kind, .int .i64 r.v.int, .string r.v.text, .slice r.v.p r.v.n r.v.c, .slice r.p r.n r.c] 27)).heap.size (w.alloc (.cells #[.string r.key, .int .i64 r.v.kind, .int .i64 r.v.int, .string r.v.text, .slice r.v.p r.v.n r.v.c, .slice r.p r.n r.c] 27)) W → Calls Tryz.prog 52 #[r.val] W fun x w' => okPost W x w') := fun W hW => by have h := checkRecord_any r W S ((hin.below ha).below hW) (fun b hb => by have := hS b hb; have := ha.size; have := hW.size; omega); rw [hr] at h; exact h
  have HC : Hid (∀ W, Below (w.alloc (.cells #[.string r.key, .int .i64 r.v.kind, .int .i64 r.v.int, .string r.v.text, .slice r.v.p r.v.n r.v.c, .slice r.p r.n r.c] 27)).heap.size (w.alloc (.cells #[.string r.key, .int .i64 r.v.kind, .int .i64 r.v.int, .string r.v.text, .slice r.v.p r.v.n r.v.c, .slice r.p r.n r.c] 27)) W → Calls Tryz.prog 51 #[r.val, .int .i64 0, .func (.func 53) #[] #[]] W fun x w' => PutP (recB r) W x w') := fun W hW => writtenRec r W S ((hin.below ha).below hW) hr (fun b hb => by have := hS b hb; have := ha.size; have := hW.size; omega)
  have HA := hid ha
  have hbx := Box.new w #[.string r.key, .int .i64 r.v.kind, .int .i64 r.v.int, .string r.v.text, .slice r.v.p r.v.n r.v.c, .slice r.p r.n r.c] 27
  have c0 := hbx.cell 0
  have c1 := hbx.cell 1
  have c2 := hbx.cell 2
  have c3 := hbx.cell 3
  have c4 := hbx.cell 4
  have c5 := hbx.cell 5
  simp only [List.getElem?_toArray, List.getElem?_cons_zero, List.getElem?_cons_succ] at c0 c1 c2 c3 c4 c5
  have HBx := hid hbx
  unfold RT.val at HK HC ⊢
  clear ha hS hbx
  go_enter Tryz.func23, Tryz.ntmps23
  go_wp2_with fail
  go_region_law (first
    | (refine step_call rfl 52 #[.tmp 5] _ rfl Tryz.f52 Tryz.func52 (by kernel_rfl) rfl #[.agg #[.string r.key, .int .i64 r.v.kind, .int .i64 r.v.int, .string r.v.text, .slice r.v.p r.v.n r.v.c, .slice r.p r.n r.c]] rfl _ (HK.out _ ?_) ?_
       · exact (Below.refl _ _).drew
       rintro e1 w2 ⟨rfl, hb2⟩
       refine ⟨_, rfl, ?_⟩
       have hb3 : Below (w.alloc (.cells #[.string r.key, .int .i64 r.v.kind, .int .i64 r.v.int, .string r.v.text, .slice r.v.p r.v.n r.v.c, .slice r.p r.n r.c] 27)).heap.size (w.alloc (.cells #[.string r.key, .int .i64 r.v.kind, .int .i64 r.v.int, .string r.v.text, .slice r.v.p r.v.n r.v.c, .slice r.p r.n r.c] 27)) w2 := (Below.refl _ _).drew.trans hb2
       have hx2 := HBx.out.below hb3
       have y0 := hx2.cell 0
       have y1 := hx2.cell 1
       have y2 := hx2.cell 2
       have y3 := hx2.cell 3
       have y4 := hx2.cell 4
       have y5 := hx2.cell 5
       simp only [List.getElem?_toArray, List.getElem?_cons_zero, List.getElem?_cons_succ] at y0 y1 y2 y3 y4 y5)
    | (refine step_call rfl 51 #[.tmp 4, .tmp 6, .func 53] _ rfl Tryz.f51 Tryz.func51 (by kernel_rfl) rfl #[.agg #[.string r.key, .int .i64 r.v.kind, .int .i64 r.v.int, .string r.v.text, .slice r.v.p r.v.n r.v.c, .slice r.p r.n r.c], .int .i64 0, .func (.func 53) #[] #[]] rfl _ (HC.out _ hb3) ?_
       rintro e3 w3 ⟨v3, rfl, ho3, hb4⟩
       refine ⟨_, rfl, ?_⟩
       have HF := hid (And.intro (ho3.mono (Nat.le_trans HA.out.size hb3.size)) ((HA.out.trans (hb3.mono HA.out.size)).trans (hb4.mono (Nat.le_trans HA.out.size hb3.size))))))
  all_goals
    clear hb2 hb3 hx2 ho3 hb4
    go_wp2
    refine bodyPost_ret (v := .tuple #[v3, .int .i64 0]) (by simp [results, Tryz.results23, go_sem]) rfl ?_
    exact ⟨v3, rfl, HF.out.1, HF.out.2⟩
end Go.Proofs.YtnjgojbmlmadiaaGreat

namespace Go.Proofs.YtnjgojbmlmadiaaGreat
open Go.RowKit
set_option maxRecDepth 8000
set_option maxHeartbeats 4000000 in
theorem lawputRec (k : Int) (hk2 : k ≠ 2) (hk3 : k ≠ 3) (hk4 : k ≠ 4) (hk5 : k ≠ 5) (t : RT) (w : World) (S : Nat → Prop) (hin : RT.In w S t) (hr : chkRec t = 0) (hS : ∀ b, S b → b < w.heap.size) : Calls Tryz.prog 11 #[.agg (thRT k t)] w fun x w' => PutP (recB t) w x w' := by
  have ha : Below w.heap.size w (w.alloc (.cells (thRT k t) 45)) := (Below.refl _ _).alloc (Nat.le_refl _) _
  have hbx := Box.new w (thRT k t) 45
  have cc := (hbx.cell 0).trans (show (thRT k t)[0]? = some (.int .i64 k) from rfl)
  have c0 := (hbx.cell 1).trans (show (thRT k t)[1]? = some (.string t.key) from rfl)
  have c1 := (hbx.cell 2).trans (show (thRT k t)[2]? = some (.int .i64 t.v.kind) from rfl)
  have c2 := (hbx.cell 3).trans (show (thRT k t)[3]? = some (.int .i64 t.v.int) from rfl)
  have c3 := (hbx.cell 4).trans (show (thRT k t)[4]? = some (.string t.v.text) from rfl)
  have c4 := (hbx.cell 5).trans (show (thRT k t)[5]? = some (.slice t.v.p t.v.n t.v.c) from rfl)
  have c5 := (hbx.cell 6).trans (show (thRT k t)[6]? = some (.slice t.p t.n t.c) from rfl)
  have HC := hid (putRec_any t _ S (hin.below ha) hr (fun b hb => by have := hS b hb; have := ha.size; omega))
  have HA := hid ha
  have q2 : (k == 2) = false := by simpa using hk2
  have q3 : (k == 3) = false := by simpa using hk3
  have q4 : (k == 4) = false := by simpa using hk4
  have q5 : (k == 5) = false := by simpa using hk5
  unfold RT.val at HC
  clear hbx ha hS hk2 hk3 hk4 hk5
  obtain ⟨cT, hcT⟩ : ∃ cT, cT = thRT k t := ⟨_, rfl⟩
  rw [← hcT] at HC HA ⊢
  rw [← hcT] at cc c0 c1 c2 c3 c4 c5
  clear hcT
  go_enter Tryz.func11, Tryz.ntmps11
  go_wp2_with fail
  refine HC.out.mono ?_
  rintro x w1 ⟨v1, rfl, ho1, hb1⟩
  have HF := hid (And.intro (ho1.mono HA.out.size) (HA.out.trans (hb1.mono HA.out.size)))
  have HN := fun W => num_any 0 W
  clear ho1 hb1 HC
  go_wp2_with fail
  refine (HN _).mono ?_
  rintro x w2 ⟨rfl, hw2⟩
  subst w2
  go_wp2
  refine bodyPost_ret (v := .tuple #[v1, .int .i64 0]) (by simp [results, Tryz.results11, go_sem]) rfl ?_
  exact ⟨v1, rfl, HF.out.1, HF.out.2⟩
end Go.Proofs.YtnjgojbmlmadiaaGreat

namespace Go.Proofs.YtnjgojbmlmadiaaGreat
open Go.RowKit
set_option maxRecDepth 8000
set_option maxHeartbeats 2000000 in
theorem wsame_any (w : World) (S S' : Nat → Prop) (p p' : Option Addr) (n c c' : Nat) (f : Nat → Int) (h : Byts w S p n c f) (h' : Byts w S' p' n c' f) : Calls Tryz.prog 14 #[.slice p n c, .slice p' n c'] w fun x w' => x = .returned (.bool true) ∧ Below w.heap.size w w' := by
  have H := hid h
  have H' := hid h'
  have hnn := h.nn
  clear h h'
  go_enter Tryz.func14, Tryz.ntmps14
  go_wp2_with fail
  go_loopw [5] (fun x wr => ∃ j : Nat, j ≤ n ∧ x = .int .i64 j ∧ Below w.heap.size w wr) (fun x _ => n - (intOf x).toNat)
  case atStart => exact ⟨0, Nat.zero_le _, rfl, Below.refl _ _⟩
  case round =>
    obtain ⟨j, hj, rfl, hbel⟩ := hrel
    by_cases hlt : j < n
    · have hlt' : (j : Int) < (n : Int) := by omega
      obtain ⟨b1, o1, hp, _, hl1, ha⟩ := H.out.at_ (by omega)
      obtain ⟨b2, o2, hp', _, hl2, ha'⟩ := H'.out.at_ (by omega)
      subst hp hp'
      have d1 := (World.cell?_of_block (a := ⟨b1, o1 + j, none⟩) (hbel.block b1 hl1)).trans (ha j hlt)
      have d2 := (World.cell?_of_block (a := ⟨b2, o2 + j, none⟩) (hbel.block b2 hl2)).trans (ha' j hlt)
      have HB := hid hbel
      clear ha ha' hbel
      go_wp2_with fail
      go_region
      go_wp2
      go_roundw
      case rel => exact ⟨j + 1, by omega, by go_num, HB.out.drew⟩
      case measure => simp [intOf]; omega
    · obtain rfl : j = n := by omega
      have hlt' : ¬ (j : Int) < (j : Int) := by omega
      have HB := hid hbel
      clear hbel
      go_wp2
      go_ret
      exact ⟨rfl, HB.out⟩
/-- two values without items that are the same -/
structure Leaf (t u : VT) : Prop where
  kind : u.kind = t.kind
  int : u.int = t.int
  text : u.text = t.text
  n : t.n = 0
  n' : u.n = 0
set_option maxHeartbeats 2000000 in
theorem sameValue_leaf (t u : VT) (h : Leaf t u) (w : World) : Calls Tryz.prog 32 #[t.val, u.val] w fun x w' => x = .returned (.bool true) ∧ Below w.heap.size w w' := by
  obtain ⟨h1, h2, h3, h4, h5⟩ := h
  unfold VT.val
  rw [h1, h2, h3, h4, h5]
  clear h1 h2 h3 h4 h5
  go_enter Tryz.func32, Tryz.ntmps32
  go_wp2_with fail
  go_loopw [5] (fun x wr => x = .int .i64 0 ∧ Below w.heap.size w wr ∧ Box wr w.heap.size #[.int .i64 t.kind, .int .i64 t.int, .string t.text, .slice t.p 0 t.c] 24) (fun x _ => 0 - (intOf x).toNat)
  case atStart => exact ⟨rfl, ((Below.refl _ _).alloc (Nat.le_refl _) _).alloc (by simp) _, (Box.new w _ _).below ((Below.refl _ _).alloc (Nat.le_refl _) _)⟩
  case round =>
    obtain ⟨rfl, hb, hx⟩ := hrel
    have c3 := hx.cell 3
    simp only [List.getElem?_toArray, List.getElem?_cons_zero, List.getElem?_cons_succ] at c3
    have HB := hid hb
    clear hb hx
    go_wp2
    go_ret
    exact ⟨rfl, HB.out⟩
/-- two records without items in their values that are the same -/
structure LeafR (r q : RT) : Prop where
  key : q.key = r.key
  v : Leaf r.v q.v
  n : q.n = r.n
  loop : ∀ j, j < r.n → q.loop j = r.loop j
set_option maxHeartbeats 4000000 in
theorem sameRecord_leaf (r q : RT) (h : LeafR r q) (w : World) (S : Nat → Prop) (hr : RT.In w S r) (hq : RT.In w S q) (hS : ∀ b, S b → b < w.heap.size) : Calls Tryz.prog 16 #[r.val, q.val] w fun x w' => x = .returned (.bool true) ∧ Below w.heap.size w w' := by
  have HV := fun W => sameValue_leaf r.v q.v h.v W
  have hk := h.key
  have hn := h.n
  have HLp := hid h.loop
  have hb0 : Below w.heap.size w ((w.alloc (.cells #[.string r.key, .int .i64 r.v.kind, .int .i64 r.v.int, .string r.v.text, .slice r.v.p r.v.n r.v.c, .slice r.p r.n r.c] 27)).alloc (.cells #[.string q.key, .int .i64 q.v.kind, .int .i64 q.v.int, .string q.v.text, .slice q.v.p q.v.n q.v.c, .slice q.p q.n q.c] 27)) := ((Below.refl _ _).alloc (Nat.le_refl _) _).alloc (by simp) _
  have hx0 := (Box.new w #[.string r.key, .int .i64 r.v.kind, .int .i64 r.v.int, .string r.v.text, .slice r.v.p r.v.n r.v.c, .slice r.p r.n r.c] 27).below ((Below.refl _ _).alloc (Nat.le_refl _) (.cells #[.string q.key, .int .i64 q.v.kind, .int .i64 q.v.int, .string q.v.text, .slice q.v.p q.v.n q.v.c, .slice q.p q.n q.c] 27))
  have hy0 := Box.new (w.alloc (.cells #[.string r.key, .int .i64 r.v.kind, .int .i64 r.v.int, .string r.v.text, .slice r.v.p r.v.n r.v.c, .slice r.p r.n r.c] 27)) #[.string q.key, .int .i64 q.v.kind, .int .i64 q.v.int, .string q.v.text, .slice q.v.p q.v.n q.v.c, .slice q.p q.n q.c] 27
  rw [show (w.alloc (.cells #[.string r.key, .int .i64 r.v.kind, .int .i64 r.v.int, .string r.v.text, .slice r.v.p r.v.n r.v.c, .slice r.p r.n r.c] 27)).heap.size = w.heap.size + 1 by simp] at hy0
  rw [hk, hn] at hy0 hx0 hb0
  have HX0 := hid hx0
  have HY0 := hid hy0
  have HB0 := hid hb0
  have hrn := hr.l.nn
  have HIr := hid hr.l
  have HIq := hid hq.l
  have HS := hid hS
  rw [hn] at HIq
  unfold RT.val
  rw [hk, hn]
  unfold VT.val at HV
  clear hk hn h hr hq hS hb0 hx0 hy0
  go_enter Tryz.func16, Tryz.ntmps16
  go_wp2_with fail
  refine (HV _).mono ?_
  rintro x w1 ⟨rfl, hb1⟩
  have hx1 := HX0.out.below hb1
  have hy1 := HY0.out.below hb1
  have c5 := hx1.cell 5
  have d5 := hy1.cell 5
  simp only [List.getElem?_toArray, List.getElem?_cons_zero, List.getElem?_cons_succ] at c5 d5
  have HX1 := hid hx1
  have HY1 := hid hy1
  have HB1 := hid (HB0.out.trans (hb1.mono HB0.out.size))
  clear hx1 hy1 hb1 HV HX0 HY0 HB0
  go_wp2_with fail
  go_loopw [5] (fun x wr => ∃ j : Nat, j ≤ r.n ∧ x = .int .i64 j ∧ Below w1.heap.size w1 wr) (fun x _ => r.n - (intOf x).toNat)
  case atStart => exact ⟨0, Nat.zero_le _, rfl, Below.refl _ _⟩
  case round =>
    obtain ⟨j, hj, rfl, hbel⟩ := hrel
    have hx2 := HX1.out.below hbel
    have hy2 := HY1.out.below hbel
    have a5 := hx2.cell 5
    have b5 := hy2.cell 5
    simp only [List.getElem?_toArray, List.getElem?_cons_zero, List.getElem?_cons_succ] at a5 b5
    have hs1 := HB1.out.size
    have HB2 := hid hbel
    by_cases hlt : j < r.n
    · have hlt' : (j : Int) < (r.n : Int) := by omega
      obtain ⟨b1, o1, hp, hSb1, _, ha⟩ := HIr.out.at_ (by omega)
      obtain ⟨b2, o2, hp', hSb2, _, ha'⟩ := HIq.out.at_ (by omega)
      have hl1 := HS.out b1 hSb1
      have hl2 := HS.out b2 hSb2
      have e1 := (World.cell?_of_block (a := ⟨b1, o1 + j, none⟩) ((hbel.block b1 (by omega)).trans (HB1.out.block b1 hl1))).trans (ha j hlt)
      have e2 := (World.cell?_of_block (a := ⟨b2, o2 + j, none⟩) ((hbel.block b2 (by omega)).trans (HB1.out.block b2 hl2))).trans (ha' j hlt)
      rw [HLp.out j hlt] at e2
      rw [hp] at a5
      rw [hp'] at b5
      clear ha ha' hbel hx2 hy2 c5 d5
      go_wp2_with fail
      go_region
      go_wp2
      go_roundw
      case rel => exact ⟨j + 1, by omega, by go_num, HB2.out.drew⟩
      case measure => simp [intOf]; omega
    · obtain rfl : j = r.n := by omega
      have hlt' : ¬ (r.n : Int) < (r.n : Int) := by omega
      clear hbel hx2 hy2
      go_wp2
      go_ret
      exact ⟨rfl, HB1.out.trans (HB2.out.mono hs1)⟩
end Go.Proofs.YtnjgojbmlmadiaaGreat
