import Derived.Test.YtldkepokcbjlpaaPack16
namespace Go.Proofs.Ytldkepokcbjlpaa
open Go.RowKit Go.Conc
set_option maxRecDepth 60000
def PtT.cells (t : PtT) : List Value := [.int .i64 t.num, .slice t.cl.p t.cl.n t.cl.c, .slice t.lg.p t.lg.n t.lg.c, .slice t.pd.p t.pd.n t.pd.c]
def Ps.rows (P : Ps) (T : Nat) : List Value := (List.range T).flatMap fun j => (P.pt j).cells
theorem Ps.rows_len (P : Ps) : ∀ T, (P.rows T).length = T * 4
  | 0 => rfl
  | T + 1 => by
    unfold Ps.rows
    rw [List.range_succ, List.flatMap_append, List.length_append]
    have := P.rows_len T
    unfold Ps.rows at this
    rw [this]
    simp [PtT.cells]
    omega
theorem Ps.rows_pre (P : Ps) : ∀ {T U : Nat}, T ≤ U → P.rows T <+: P.rows U
  | T, 0, h => by
    obtain rfl : T = 0 := by omega
    exact List.prefix_refl _
  | T, U + 1, h => by
    rcases Nat.lt_or_ge T (U + 1) with h1 | h1
    · refine (P.rows_pre (T := T) (U := U) (by omega)).trans ?_
      unfold Ps.rows
      rw [List.range_succ, List.flatMap_append]
      exact List.prefix_append _ _
    · obtain rfl : T = U + 1 := by omega
      exact List.prefix_refl _
theorem Ps.rows12 (P : Ps) : P.rows 12 = P.arr.toList.drop 17 := rfl
theorem PsI.rowAt {w : World} {b : Nat} {P : Ps} (h : PsI w b P) {T : Nat} (hT : T ≤ 12) : ∀ j u, (P.rows T)[j]? = some u → w.cell? ((⟨b, 17, none⟩ : Addr).add j) = some u := fun j u hu => by
  rw [Go.WideShapes.add_plain, h.box.cell]
  have h1 : (P.rows 12)[j]? = some u := by
    obtain ⟨r, hr⟩ := P.rows_pre hT
    rw [← hr, List.getElem?_append_left (List.getElem?_eq_some_iff.1 hu).1]
    exact hu
  rw [P.rows12, List.getElem?_drop] at h1
  rw [← Array.getElem?_toList]
  exact h1
theorem Ps.rows_one (P : Ps) (T : Nat) : ∀ u ∈ P.rows T, u.oneCell' = true := fun u hu => by
  unfold Ps.rows at hu
  obtain ⟨j, _, hj⟩ := List.mem_flatMap.1 hu
  simp only [PtT.cells, List.mem_cons, List.not_mem_nil, or_false] at hj
  rcases hj with rfl | rfl | rfl | rfl <;> rfl
theorem kindPt : ∃ i, Kind 46 39 i (.agg #[.int .i64 0, .slice none 0 0, .slice none 0 0, .slice none 0 0]) 4 80 := by
  obtain ⟨i0, hi, hz0, hz1, hz2⟩ := info_parts (show (Try.prog.info? 39).map (fun i => (i.zero, i.size, i.bytes)) = some (some (.agg #[.int .i64 0, .slice none 0 0, .slice none 0 0, .slice none 0 0]), 4, 80) by kernel_rfl)
  exact ⟨i0, Try.underlying46, hi, hz0, hz1, hz2, rfl, by decide⟩
structure ClQ (w : World) (P : Ps) (T : Nat) (p : Option Addr) (c : Nat) (w' : World) : Prop where
  own : w'.ownsRow w.heap.size 39 4 (.slice p T c) T (P.rows T)
  bel : Below w.heap.size w w'
set_option maxHeartbeats 4000000 in
theorem cloneP_any (T : Nat) (hT0 : 1 ≤ T) (hT : T ≤ 12) (w : World) (b : Nat) (P : Ps) (hI : PsI w b P) : Calls Try.prog 57 #[.slice (some ⟨b, 17, none⟩) T 12] w fun e w' => ∃ p c, e = .returned (.slice p T c) ∧ ClQ w P T p c w' := by
  obtain ⟨i0, Kd⟩ := kindPt
  have HKd := hid Kd
  have qT : ∀ (w : World) (a : Option Addr) (n c n' c' : Nat), (binOp .eql 46 (.slice a n c) (.slice none n' c')).run Try.prog w = .ok (.bool a.isNone) w := fun w a n c n' c' => Lib.run_eql_slice_nil w _ _ a n c n' c' Try.underlying46
  have hB : Below w.heap.size w (w.alloc (.cells #[] 39)) := (Below.refl _ _).alloc (Nat.le_refl _) _
  have hI2 := hI.below hB
  have HO : Hid ((w.alloc (.cells #[] 39)).ownsRow w.heap.size 39 4 (.slice (some ⟨w.heap.size, 0, none⟩) 0 0) 0 []) := World.ownsRow_made w #[] 0 (Nat.le_refl _) (Nat.zero_le _) rfl
  have HNew := hid (hI2.rowAt hT)
  have HB := hid hB
  have hrl := P.rows_len T
  clear hI hB hI2 Kd
  go_enter Try.func57, Try.ntmps57
  go_wp2_with (at_builtin; refine wpList_app rfl (.tmp 5) (.tmp 6) 46 39 i0 _ 4 80 HKd.out rfl w.heap.size (.slice (some ⟨w.heap.size, 0, none⟩) 0 0) 0 [] rfl HO.out ⟨b, 17, none⟩ T 12 (P.rows T) rfl hrl HNew.out (P.rows_one T) (by omega) (by omega) (by simp) ?_)
  intro v3 w3 ho3 hg3 hn3
  have ho3 : w3.ownsRow w.heap.size 39 4 v3 T (P.rows T) := by simpa using ho3
  obtain ⟨p3, c3, rfl⟩ := ownsRow_slice ho3
  have HB3 : Hid (Below w.heap.size w w3) := HB.out.grown hg3 (by simp) (fun k hk => by cases hk; exact Nat.le_refl _)
  have HO3 := hid ho3
  clear ho3 hg3 hn3
  go_wp2
  exact bodyPost_ret (v := .slice p3 T c3) (by simp [results, Try.results57, go_sem]) rfl ⟨p3, c3, rfl, HO3.out, HB3.out⟩
end Go.Proofs.Ytldkepokcbjlpaa

namespace Go.Proofs.Ytldkepokcbjlpaa
open Go.RowKit Go.Conc
set_option maxRecDepth 60000
def Ps.gath (P : Ps) (t : Nat) (x : PtT) : Ps := { P with pl := fun j => if j = t then 2 else P.pl j, pt := fun j => if j = t then x else P.pt j }
theorem Ps.gath_arr (P : Ps) {t : Nat} (ht : t < 12) (x : PtT) : (((((P.arr.setIfInBounds (5 + t) (.int .u8 2)).setIfInBounds (17 + t * 4) (.int .i64 x.num)).setIfInBounds (17 + t * 4 + 1) (.slice x.cl.p x.cl.n x.cl.c)).setIfInBounds (17 + t * 4 + 2) (.slice x.lg.p x.lg.n x.lg.c)).setIfInBounds (17 + t * 4 + 3) (.slice x.pd.p x.pd.n x.pd.c)) = (P.gath t x).arr := by
  apply Array.toList_inj.1
  simp only [Array.toList_setIfInBounds]
  rcases (by omega : t = 0 ∨ t = 1 ∨ t = 2 ∨ t = 3 ∨ t = 4 ∨ t = 5 ∨ t = 6 ∨ t = 7 ∨ t = 8 ∨ t = 9 ∨ t = 10 ∨ t = 11) with rfl | rfl | rfl | rfl | rfl | rfl | rfl | rfl | rfl | rfl | rfl | rfl <;> rfl
theorem PsI.gathered {W : World} {b : Nat} {P : Ps} (h : PsI W b P) {t : Nat} (ht : t < 12) (x : PtT) : QSet W b P (((((W.setCell ⟨b, 5 + t, none⟩ (.int .u8 2)).setCell ⟨b, 17 + t * 4, none⟩ (.int .i64 x.num)).setCell ⟨b, 17 + t * 4 + 1, none⟩ (.slice x.cl.p x.cl.n x.cl.c)).setCell ⟨b, 17 + t * 4 + 2, none⟩ (.slice x.lg.p x.lg.n x.lg.c)).setCell ⟨b, 17 + t * 4 + 3, none⟩ (.slice x.pd.p x.pd.n x.pd.c)) (P.gath t x) := by
  have hbt : But (fun k => k = b) W (((((W.setCell ⟨b, 5 + t, none⟩ (.int .u8 2)).setCell ⟨b, 17 + t * 4, none⟩ (.int .i64 x.num)).setCell ⟨b, 17 + t * 4 + 1, none⟩ (.slice x.cl.p x.cl.n x.cl.c)).setCell ⟨b, 17 + t * 4 + 2, none⟩ (.slice x.lg.p x.lg.n x.lg.c)).setCell ⟨b, 17 + t * 4 + 3, none⟩ (.slice x.pd.p x.pd.n x.pd.c)) := (((((But.one W b).setAt (5 + t) _).setAt (17 + t * 4) _).setAt (17 + t * 4 + 1) _).setAt (17 + t * 4 + 2) _).setAt (17 + t * 4 + 3) _
  have hbx := (((((h.box.set (5 + t) (.int .u8 2)).set (17 + t * 4) (.int .i64 x.num)).set (17 + t * 4 + 1) (.slice x.cl.p x.cl.n x.cl.c)).set (17 + t * 4 + 2) (.slice x.lg.p x.lg.n x.lg.c)).set (17 + t * 4 + 3) (.slice x.pd.p x.pd.n x.pd.c))
  rw [P.gath_arr ht x] at hbx
  refine ⟨⟨hbx, ?_, h.ne, h.st, h.t0, h.t1, h.f0, h.f1, h.n1⟩, ⟨hbt.os, hbt.tape, hbt.output, hbt.size, fun k hl hn => hbt.block k hl (fun e => hn (.inl e))⟩, fun k hk => .inl hk⟩
  exact ownsRow_keep h.own (fun k hk hl => hbt.block k hl (fun e => h.ne (by rw [← e]; exact hk)))
theorem PsI.cpt {w : World} {b : Nat} {P : Ps} (h : PsI w b P) {i : Nat} (hi : i < 12) : w.cell? ⟨b, 17 + i * 4, none⟩ = some (.int .i64 (P.pt i).num) ∧ w.cell? ⟨b, 17 + i * 4 + 1, none⟩ = some (.slice (P.pt i).cl.p (P.pt i).cl.n (P.pt i).cl.c) ∧ w.cell? ⟨b, 17 + i * 4 + 2, none⟩ = some (.slice (P.pt i).lg.p (P.pt i).lg.n (P.pt i).lg.c) ∧ w.cell? ⟨b, 17 + i * 4 + 3, none⟩ = some (.slice (P.pt i).pd.p (P.pt i).pd.n (P.pt i).pd.c) := by
  rw [h.box.cell, h.box.cell, h.box.cell, h.box.cell]
  rcases (by omega : i = 0 ∨ i = 1 ∨ i = 2 ∨ i = 3 ∨ i = 4 ∨ i = 5 ∨ i = 6 ∨ i = 7 ∨ i = 8 ∨ i = 9 ∨ i = 10 ∨ i = 11) with rfl | rfl | rfl | rfl | rfl | rfl | rfl | rfl | rfl | rfl | rfl | rfl <;> exact ⟨rfl, rfl, rfl, rfl⟩
end Go.Proofs.Ytldkepokcbjlpaa
