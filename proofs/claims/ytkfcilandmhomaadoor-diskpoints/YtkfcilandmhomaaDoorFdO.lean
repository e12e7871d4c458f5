import Derived.Test.YtkfcilandmhomaaDoorFdN
namespace Go.Proofs.YtkfcilandmhomaaDoor
open Go.RowKit
set_option maxRecDepth 8000
/-- disks beside one another, each apart from the others and from the blocks of Z -/
def Ds (w : World) : (Nat → Prop) → List (Nat × AK) → Prop
  | Z, [] => ∀ k, Z k → k < w.heap.size
  | Z, x :: l => ∃ (D : DK) (C : Nat → Prop), DkI w C x.1 D ∧ Rel D x.2 ∧ (∀ k, C k → ¬ Z k ∧ k < w.heap.size) ∧ Ds w (fun k => Z k ∨ C k) l
theorem Ds.terr {w : World} : ∀ (l : List (Nat × AK)) (Z : Nat → Prop), Ds w Z l → ∃ U : Nat → Prop, (∀ k, U k → ¬ Z k ∧ k < w.heap.size) ∧
    ∀ (w' : World) (Z' : Nat → Prop), (∀ k, U k → w'.heap[k]? = w.heap[k]?) → w.heap.size ≤ w'.heap.size → (∀ k, Z' k → k < w'.heap.size ∧ ¬ U k) → Ds w' Z' l
  | [], Z, _ => ⟨fun _ => False, fun _ h => h.elim, fun w' Z' _ _ hz k hk => (hz k hk).1⟩
  | x :: l, Z, ⟨D, C, hI, hr, hc, hl⟩ => by
    obtain ⟨U, hU, hS⟩ := Ds.terr l _ hl
    refine ⟨fun k => C k ∨ U k, fun k hk => ?_, fun w' Z' hk hs hz => ?_⟩
    · rcases hk with hk | hk
      · exact hc k hk
      · exact ⟨fun e => (hU k hk).1 (.inl e), (hU k hk).2⟩
    · refine ⟨D, C, hI.kept fun k hC _ => hk k (.inl hC), hr, fun k hC => ⟨fun e => (hz k e).2 (.inl hC), Nat.lt_of_lt_of_le (hc k hC).2 hs⟩, hS w' _ (fun k h => hk k (.inr h)) hs fun k h => ?_⟩
      rcases h with h | h
      · exact ⟨(hz k h).1, fun e => (hz k h).2 (.inr e)⟩
      · exact ⟨Nat.lt_of_lt_of_le (hc k h).2 hs, fun e => (hU k e).1 (.inr h)⟩
theorem Ds.zlt {w : World} : ∀ (l : List (Nat × AK)) (Z : Nat → Prop), Ds w Z l → ∀ k, Z k → k < w.heap.size
  | [], _, h => h
  | _ :: l, _, ⟨_, _, _, _, _, hl⟩ => fun k hk => Ds.zlt l _ hl k (.inl hk)
theorem Ds.less {w : World} {Z Z' : Nat → Prop} {l : List (Nat × AK)} (h : Ds w Z l) (hz : ∀ k, Z' k → Z k) : Ds w Z' l := by
  obtain ⟨U, hU, hS⟩ := Ds.terr l Z h
  exact hS w Z' (fun _ _ => rfl) (Nat.le_refl _) fun k hk => ⟨Ds.zlt l Z h k (hz k hk), fun e => (hU k e).1 (hz k hk)⟩
theorem Ds.more {w w' : World} {Z : Nat → Prop} {l : List (Nat × AK)} (h : Ds w Z l) (hb : Below w.heap.size w w') : Ds w' (fun k => Z k ∨ (w.heap.size ≤ k ∧ k < w'.heap.size)) l := by
  obtain ⟨U, hU, hS⟩ := Ds.terr l Z h
  refine hS w' _ (fun k hk => hb.block k (hU k hk).2) hb.size fun k hk => ?_
  rcases hk with hk | hk
  · exact ⟨Nat.lt_of_lt_of_le (Ds.zlt l Z h k hk) hb.size, fun e => (hU k e).1 hk⟩
  · exact ⟨hk.2, fun e => by have := (hU k e).2; omega⟩
theorem Ds.bel {w w' : World} {Z : Nat → Prop} {l : List (Nat × AK)} (h : Ds w Z l) (hb : Below w.heap.size w w') : Ds w' Z l := (h.more hb).less fun _ hk => .inl hk
theorem Ds.swap {w : World} {Z : Nat → Prop} {x y : Nat × AK} {l : List (Nat × AK)} (h : Ds w Z (x :: y :: l)) : Ds w Z (y :: x :: l) := by
  obtain ⟨D1, C1, i1, r1, c1, D2, C2, i2, r2, c2, hl⟩ := h
  refine ⟨D2, C2, i2, r2, fun k hk => ⟨fun e => (c2 k hk).1 (.inl e), (c2 k hk).2⟩, D1, C1, i1, r1, fun k hk => ⟨fun e => ?_, (c1 k hk).2⟩, hl.less fun k hk => ?_⟩
  · rcases e with e | e
    · exact (c1 k hk).1 e
    · exact (c2 k e).1 (.inr hk)
  · rcases hk with (hk | hk) | hk
    · exact .inl (.inl hk)
    · exact .inr hk
    · exact .inl (.inr hk)
theorem Ds.drop {w : World} {Z : Nat → Prop} {x : Nat × AK} {l : List (Nat × AK)} (h : Ds w Z (x :: l)) : Ds w Z l := by
  obtain ⟨_, _, _, _, _, hl⟩ := h
  exact hl.less fun _ hk => .inl hk
/-- the first of them, as a disk by itself -/
theorem Ds.one {w : World} {Z : Nat → Prop} {d : Nat} {A : AK} {l : List (Nat × AK)} (h : Ds w Z ((d, A) :: l)) :
    ∃ (Y : Nat → Prop) (D : DK), DM Y w d D ∧ Rel D A ∧ (∀ k, Z k → Y k) ∧ ∀ (w' : World) (A' : AK), DQ Y w w' d A' → Ds w' Z ((d, A') :: l) ∧ Fr Z w w' := by
  obtain ⟨D, C, hI, hr, hc, hl⟩ := h
  obtain ⟨U, hU, hS⟩ := Ds.terr l _ hl
  have hzl := Ds.zlt l _ hl
  refine ⟨fun k => Z k ∨ U k, D, ⟨C, hI, fun k hk => ⟨fun e => ?_, (hc k hk).2⟩, fun k hk => ?_⟩, hr, fun k hk => .inl hk, fun w' A' hq => ?_⟩
  · rcases e with e | e
    · exact (hc k hk).1 e
    · exact (hU k e).1 (.inr hk)
  · rcases hk with hk | hk
    · exact hzl k (.inl hk)
    · exact (hU k hk).2
  · obtain ⟨⟨D', ⟨C', hI', hc', hy'⟩, hr'⟩, hf⟩ := hq
    refine ⟨⟨D', C', hI', hr', fun k hk => ⟨fun e => (hc' k hk).1 (.inl e), (hc' k hk).2⟩, hS w' _ (fun k hk => hf.block k (hU k hk).2 fun e => e (.inr hk)) hf.size fun k hk => ?_⟩, hf.less fun k hk => .inl hk⟩
    rcases hk with hk | hk
    · exact ⟨hy' k (.inl hk), fun e => (hU k e).1 (.inl hk)⟩
    · exact ⟨(hc' k hk).2, fun e => (hc' k hk).1 (.inr e)⟩
theorem Ds.rel {w : World} {Z : Nat → Prop} {d : Nat} {A : AK} {l : List (Nat × AK)} (h : Ds w Z ((d, A) :: l)) {A' : AK} (hr : ∀ D, Rel D A → Rel D A') : Ds w Z ((d, A') :: l) := by
  obtain ⟨D, C, hI, h1, hc, hl⟩ := h
  exact ⟨D, C, hI, hr D h1, hc, hl⟩
theorem Ds.wf {w : World} {Z : Nat → Prop} {d : Nat} {A : AK} {l : List (Nat × AK)} (h : Ds w Z ((d, A) :: l)) : A.Wf := by
  obtain ⟨D, C, hI, h1, hc, hl⟩ := h
  exact h1.wf hI
/-- where no call is to fail, the count of those ahead says nothing -/
theorem Rel.aft {D : DK} {A : AK} (h : Rel D A) (hf : A.fails = 0) (x : Int) : Rel D { A with after := x } :=
  ⟨h.pm, h.so, h.dn, h.ar, h.fl, fun hc => absurd (h.fl.trans hf) hc, h.ok, h.a0⟩
theorem OpI.mono {w : World} {Z Y : Nat → Prop} {s : ByteArray} {n af : Int} {bp : Option Addr} {zs : List Int} {bc : Nat} {K : LT Int} (h : OpI w Z s n af bp zs bc K) (hz : ∀ k, Z k → Y k) : OpI w Y s n af bp zs bc K :=
  ⟨h.hs, h.hn, h.haf, h.hB.mono fun b hb _ => hz b hb, h.hK.mono fun b hb _ => hz b hb, h.hzl⟩
section
variable {w : World} {Z : Nat → Prop} {d : Nat} {A : AK} {l : List (Nat × AK)}
theorem ds_does (h : Ds w Z ((d, A) :: l)) (kd wh : Int) (s : ByteArray) (n af : Int) (bp : Option Addr) (zs : List Int) (bc : Nat) (K : LT Int) (hO : OpI w Z s n af bp zs bc K) :
    Calls Tryd.prog 11 #[.pointer (some ⟨d, 0, none⟩), .agg #[.int .i64 kd, .int .i64 wh, .string s, .int .i64 n, .int .i64 af, .slice bp zs.length bc, .slice K.p K.n K.c]] w fun e w' => e = .returned (.int .i64 (doesE A kd s n zs.length)) ∧ Ds w' Z ((d, doesK A kd s n af zs K) :: l) ∧ Fr Z w w' := by
  obtain ⟨Y, D, hM, hr, hz, hS⟩ := h.one
  exact (does_any Y w d D A hM hr kd wh s n af bp zs bc K (hO.mono hz)).mono fun e w' hq => ⟨hq.1, hS w' _ hq.2⟩
theorem ds_works (h : Ds w Z ((d, A0) :: l)) :
    Calls Tryd.prog 10 #[.pointer (some ⟨d, 0, none⟩)] w fun e w' => e = .returned (.bool true) ∧ Ds w' Z ((d, A0) :: l) ∧ Fr Z w w' := by
  obtain ⟨Y, D, hM, hr, hz, hS⟩ := h.one
  exact (works_any Y w d D hM hr).mono fun e w' hq => ⟨hq.1, hS w' _ hq.2⟩
theorem ds_restart (h : Ds w Z ((d, A) :: l)) (K : LT Int) (hK : LT.In elInt w Z K) :
    Calls Tryd.prog 13 #[.pointer (some ⟨d, 0, none⟩), .slice K.p K.n K.c] w fun e w' => e = .returned (.tuple #[]) ∧ Ds w' Z ((d, rstK A K) :: l) ∧ Fr Z w w' := by
  obtain ⟨Y, D, hM, hr, hz, hS⟩ := h.one
  exact (dm_restart hM hr K (hK.mono fun k hk _ => hz k hk)).mono fun e w' hq => ⟨hq.1, hS w' _ hq.2⟩
theorem ds_files (h : Ds w Z ((d, A) :: l)) :
    Calls Tryd.prog 12 #[.pointer (some ⟨d, 0, none⟩)] w fun e w' => ∃ u : LT FA, e = .returned (.slice u.p u.n u.c) ∧ LT.In elF w' (fun k => w.heap.size ≤ k) u ∧ u.n = A.ks.length ∧ (∀ j k, A.ks[j]? = some k → (u.item j).key = k) ∧ Below w.heap.size w w' := by
  obtain ⟨Y, D, hM, hr, hz, hS⟩ := h.one
  exact dm_files hM hr
theorem ds_read (h : Ds w Z ((d, A) :: l)) (s : ByteArray) (hs : s.size ≤ 140737488355328) :
    Calls Tryd.prog 18 #[.pointer (some ⟨d, 0, none⟩), .string s] w fun e w' => ∃ (p : Option Addr) (c : Nat), e = .returned (.tuple #[.slice p (readK A s).length c, .int .i64 (readA A s)]) ∧ OwnBy w.heap.size w' (.slice p (readK A s).length c) (readK A s) ∧ Below w.heap.size w w' := by
  obtain ⟨Y, D, hM, hr, hz, hS⟩ := h.one
  exact dm_read hM hr s hs
theorem ds_new (h : Ds w Z l) (u : LT FA) (hu : LT.In elF w (fun b => b < w.heap.size) u) :
    Calls Tryd.prog 8 #[.slice u.p u.n u.c] w fun e w' => Below w.heap.size w w' ∧ (newB u = false → e = .returned (.tuple #[.pointer none, .int .i64 105])) ∧
      (newB u = true → ∃ db : Nat, e = .returned (.tuple #[.pointer (some ⟨db, 0, none⟩), .int .i64 0]) ∧ Ds w' Z ((db, ⟨srtK u u.n, false, -1, 0, 0⟩) :: l)) := by
  refine (new_of u w hu).mono fun e w' hq => ?_
  obtain ⟨hb, h1, h2⟩ := hq
  refine ⟨hb, h1, fun ht => ?_⟩
  obtain ⟨db, D, he, ⟨C, hI, hc, -⟩, hr⟩ := h2 ht
  have hzl := Ds.zlt l Z h
  refine ⟨db, he, D, C, hI, hr, fun k hk => ⟨fun e => (hc k hk).1 (hzl k e), (hc k hk).2⟩, (h.more hb).less fun k hk => ?_⟩
  rcases hk with hk | hk
  · exact .inl hk
  · exact .inr ⟨Nat.le_of_not_lt (hc k hk).1, (hc k hk).2⟩
theorem ds_nil (h : Ds w Z l) :
    Calls Tryd.prog 8 #[.slice none 0 0] w fun e w' => ∃ db : Nat, e = .returned (.tuple #[.pointer (some ⟨db, 0, none⟩), .int .i64 0]) ∧ Ds w' Z ((db, A0) :: l) ∧ Below w.heap.size w w' := by
  refine (ds_new h nilF (nilF_in w _)).mono fun e w' hq => ?_
  obtain ⟨hb, _, h2⟩ := hq
  obtain ⟨db, h3, h4⟩ := h2 rfl
  exact ⟨db, h3, h4, hb⟩
theorem Ds.files_new (h : Ds w Z ((d, A) :: l)) {u : LT FA} (hn : u.n = A.ks.length) (hk : ∀ j k, A.ks[j]? = some k → (u.item j).key = k) : newB u = true ∧ srtK u u.n = A.ks := by
  obtain ⟨Y, D, hM, hr, hz, hS⟩ := h.one
  exact Go.Proofs.YtkfcilandmhomaaDoor.files_new hM hr hn hk
end
end Go.Proofs.YtkfcilandmhomaaDoor
