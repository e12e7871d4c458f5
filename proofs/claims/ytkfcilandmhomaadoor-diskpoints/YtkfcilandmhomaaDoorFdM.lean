import Derived.Test.YtkfcilandmhomaaDoorFdL
namespace Go.Proofs.YtkfcilandmhomaaDoor
open Go.RowKit
set_option maxRecDepth 8000
/-- New: the disk of what lies in the list -/
theorem new_of (l : LT FA) (w : World) (hl : LT.In elF w (fun b => b < w.heap.size) l) :
    Calls Tryd.prog 8 #[.slice l.p l.n l.c] w fun e w' => Below w.heap.size w w' ∧ (newB l = false → e = .returned (.tuple #[.pointer none, .int .i64 105])) ∧
      (newB l = true → ∃ (db : Nat) (D : DK), e = .returned (.tuple #[.pointer (some ⟨db, 0, none⟩), .int .i64 0]) ∧ DM (fun k => k < w.heap.size) w' db D ∧ Rel D ⟨srtK l l.n, false, -1, 0, 0⟩) := by
  refine (dnew_any l w hl).mono fun e w' hq => ?_
  obtain ⟨hb, h1, h2⟩ := hq
  refine ⟨hb, h1, fun ht => ?_⟩
  obtain ⟨D, he, hN⟩ := h2 ht
  refine ⟨w.heap.size + 1, D, he, ⟨fun k => w.heap.size ≤ k ∧ k < w'.heap.size, hN.dk.mono fun k hk hlt => ⟨hk, hlt⟩, fun k hk => ⟨fun e => ?_, hk.2⟩, fun k hk => Nat.lt_of_lt_of_le hk hb.size⟩, ?_⟩
  · have := hk.1; omega
  · obtain ⟨f1, f2, f3, f4, f5⟩ := hN.fl
    refine ⟨?_, srtK_rise l l.n hN.ok, f5, .inl ⟨f1, rfl⟩, f4, fun h => absurd f4 h, ⟨fun _ => f2, fun _ => f3⟩, by rw [f3]; exact Int.le_refl _⟩
    rw [hN.ks]
    exact (srtK_perm l l.n).symm
/-- the empty list of files -/
def nilF : LT FA := ⟨none, 0, 0, fun _ => ⟨⟨#[]⟩, none, 0, 0, fun _ => 0, 0⟩⟩
theorem nilF_in (w : World) (S : Nat → Prop) : LT.In elF w S nilF := LT.In.none_ elF w S none 0 _ (by decide) fun _ => rfl
theorem new_nil (w : World) :
    Calls Tryd.prog 8 #[.slice none 0 0] w fun e w' => ∃ (db : Nat) (D : DK), e = .returned (.tuple #[.pointer (some ⟨db, 0, none⟩), .int .i64 0]) ∧ DM (fun k => k < w.heap.size) w' db D ∧ Rel D A0 ∧ Below w.heap.size w w' := by
  refine (new_of nilF w (nilF_in w _)).mono fun e w' hq => ?_
  obtain ⟨hb, _, h2⟩ := hq
  obtain ⟨db, D, h3, h4, h5⟩ := h2 rfl
  exact ⟨db, D, h3, h4, h5, hb⟩
theorem fits_nil (P : LT OpD) (w : World) (S : Nat → Prop) (hP : LT.In elD w S P) :
    Calls Tryd.prog 7 #[.slice none 0 0, .slice P.p P.n P.c] w fun e w' => ∃ q : Bool, e = .returned (.bool q) ∧ Below w.heap.size w w' ∧ (q = true → P.n ≤ 400 ∧ ∀ j, j < P.n → (P.item j).zs.length ≤ 524288) := by
  refine (sfits_any nilF P w (fun _ => True) S (nilF_in w _) hP).mono fun e w' hq => ?_
  obtain ⟨q, h1, h2, h3⟩ := hq
  exact ⟨q, h1, h2, fun h => ⟨(h3 h).2.1, fun j hj => ((h3 h).2.2 j hj).1⟩⟩
/-- what Files tells of a disk is a list that New takes, and leads to the same files -/
theorem files_new {Z : Nat → Prop} {w : World} {db : Nat} {D : DK} {A : AK} {u : LT FA} (hM : DM Z w db D) (hr : Rel D A) (hn : u.n = A.ks.length) (hk : ∀ j k, A.ks[j]? = some k → (u.item j).key = k) : newB u = true ∧ srtK u u.n = A.ks := by
  obtain ⟨C, hI, -, -⟩ := hM
  have hkj : ∀ j, j < u.n → A.ks[j]? = some (u.item j).key := fun j hj => by
    have h1 : A.ks[j]? = some (A.ks[j]'(by omega)) := List.getElem?_eq_getElem _
    rw [h1, hk j _ h1]
  have hok : ∀ i, i < u.n → fOk (names u i) (u.item i) = true := fun i hi => by
    have h1 := hkj i hi
    obtain ⟨f, hf, hfk⟩ := List.mem_map.1 (hr.pm.mem_iff.2 (List.mem_of_getElem? h1))
    have hF := hI.each f hf
    have e1 : (u.item i).name = f.name := (congrArg Prod.fst hfk).symm
    have e2 : (u.item i).n = f.zs.length := by rw [← FA.zs_len]; exact (congrArg (fun k : Key => k.2.1.length) hfk).symm
    have e3 : (u.item i).sy = (f.sure : Int) := (congrArg (fun k : Key => k.2.2) hfk).symm
    have hnm : nmB (u.item i).name = true := by rw [e1]; exact (nmB_iff _).2 hF.nm
    have hno : ((names u i).any fun s => decide (s = (u.item i).name)) = false := by
      rw [List.any_eq_false]
      intro s hs
      obtain ⟨j, hj, rfl⟩ := List.mem_map.1 hs
      have hj := List.mem_range.1 hj
      have hp := List.pairwise_iff_getElem.1 hr.so j i (by omega) (by omega) hj
      have h2 := hkj j (by omega)
      rw [List.getElem?_eq_getElem (by omega)] at h1 h2
      rw [Option.some.inj h1, Option.some.inj h2] at hp
      simp only [decide_eq_true_eq]
      intro e
      have hp' : lessN (u.item j).name (u.item i).name = true := hp
      rw [e] at hp'
      exact lessN_asym hp' hp'
    have h3 := hF.le
    have h4 := hF.su
    unfold fOk
    rw [hnm, hno, e2, e3]
    simp only [Bool.not_false, Bool.and_true, Bool.true_and, Bool.and_eq_true, decide_eq_true_eq]
    omega
  have h400 : u.n ≤ 400 := by
    have h1 := hr.pm.length_eq
    rw [List.length_map] at h1
    have := hI.n
    omega
  refine ⟨newB_yes u h400 hok, ?_⟩
  have hp : (srtK u u.n).Perm A.ks := by
    have e : ((List.range u.n).map fun j => (u.item j).key) = A.ks := by
      refine List.ext_getElem? fun j => ?_
      rw [List.getElem?_map]
      by_cases hj : j < u.n
      · rw [List.getElem?_range hj, hkj j hj]
        rfl
      · rw [List.getElem?_eq_none (by simp; omega), List.getElem?_eq_none (by omega)]
        rfl
    exact (srtK_perm u u.n).trans (by rw [e])
  exact perm_eq_of (R := ltK) (fun a b h g => lessN_asym h g) _ _ hp (srtK_rise u u.n hok) hr.so
/-- a script's call in memory -/
theorem op_in {w : World} {S : Nat → Prop} {o : OpD} (h : elD.In w S o) (hz : o.zs.length ≤ 524288) : OpI w S o.name o.n o.after o.bp o.zs o.bc o.K :=
  ⟨h.1, h.2.2.1, h.2.2.2.1, h.2.2.2.2.1, h.2.2.2.2.2, by omega⟩
theorem OpI.fr {w w' : World} {Z : Nat → Prop} {s : ByteArray} {n af : Int} {bp : Option Addr} {zs : List Int} {bc : Nat} {K : LT Int} (h : OpI w Z s n af bp zs bc K) (hb : Fr Z w w') : OpI w' Z s n af bp zs bc K :=
  ⟨h.hs, h.hn, h.haf, h.hB.kept hb.size fun b hz hl => hb.block b hl fun e => e hz, h.hK.kept hb.size fun b hz hl => hb.block b hl fun e => e hz, h.hzl⟩
end Go.Proofs.YtkfcilandmhomaaDoor
