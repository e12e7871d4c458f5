import Derived.Test.YtkfcilandmhomaaDoorPack33
namespace Go.Proofs.YtkfcilandmhomaaDoor
open Go.RowKit
set_option maxRecDepth 8000
/-- a file of the reference's disk that lies nowhere -/
def ghost (k : Key) : RF := ⟨k.1, none, 0, k.2.1.take k.2.2.toNat, none, 0, k.2.1.drop k.2.2.toNat⟩
theorem ghost_key {k : Key} (h : 0 ≤ k.2.2 ∧ k.2.2 ≤ (k.2.1.length : Int)) : (ghost k).key = k := by
  obtain ⟨s, zs, n⟩ := k
  show (s, zs.take n.toNat ++ zs.drop n.toNat, ((zs.take n.toNat).length : Int)) = (s, zs, n)
  have h' : 0 ≤ n ∧ n ≤ (zs.length : Int) := h
  rw [List.take_append_drop, List.length_take]
  exact Prod.ext rfl (Prod.ext rfl (by show ((min n.toNat zs.length : Nat) : Int) = n; omega))
/-- a reference's disk of that state, that lies nowhere -/
def AK.gh (A : AK) : RK := ⟨none, 0, A.ks.map ghost, A.down, A.left, A.after, A.fails⟩
theorem AK.gh_ak {A : AK} (h : ∀ k ∈ A.ks, 0 ≤ k.2.2 ∧ k.2.2 ≤ (k.2.1.length : Int)) : A.gh.ak = A := by
  have : (A.ks.map ghost).map RF.key = A.ks := by
    rw [List.map_map]
    conv => rhs; rw [← List.map_id A.ks]
    exact List.map_congr_left fun k hk => ghost_key (h k hk)
  unfold RK.ak AK.gh
  rw [this]
/-- the program's disk has a state -/
def PR (D : DK) : Prop := (∃ R : RK, Rel D R.ak) ∧ (D.fs.map FT.name).Nodup ∧ ∀ f ∈ D.fs, f.sure ≤ f.zs.length
theorem PR.of {D : DK} {A : AK} (h : Rel D A) (hnd : (D.fs.map FT.name).Nodup) (hs : ∀ f ∈ D.fs, f.sure ≤ f.zs.length) : PR D := by
  refine ⟨⟨A.gh, ?_⟩, hnd, hs⟩
  rw [AK.gh_ak fun k hk => ?_]
  · exact h
  · obtain ⟨f, hf, rfl⟩ := List.mem_map.1 (h.pm.mem_iff.2 hk)
    have := hs f hf
    exact ⟨by show (0 : Int) ≤ (f.sure : Int); omega, by show (f.sure : Int) ≤ (f.zs.length : Int); omega⟩
theorem PR.ok {D : DK} (h : PR D) : D.Ok := by
  obtain ⟨⟨R, hR⟩, _⟩ := h
  exact hR.ok
end Go.Proofs.YtkfcilandmhomaaDoor

namespace Go.Proofs.YtkfcilandmhomaaDoor
open Go.RowKit
set_option maxRecDepth 8000
/-- a program's disk in memory, apart from the blocks of Z -/
def DM (Z : Nat → Prop) (w : World) (db : Nat) (D : DK) : Prop := ∃ C, DkI w C db D ∧ (∀ k, C k → ¬ Z k ∧ k < w.heap.size) ∧ (∀ k, Z k → k < w.heap.size)
theorem Fr.refl (Z : Nat → Prop) (w : World) : Fr Z w w := But.refl _ _
theorem Fr.less {Z Z' : Nat → Prop} {w w' : World} (h : Fr Z w w') (hz : ∀ k, Z' k → Z k) : Fr Z' w w' := But.mono h fun k _ hn hk => hn (hz k hk)
theorem DM.bel {Z : Nat → Prop} {w w1 : World} {db : Nat} {D : DK} (h : DM Z w db D) (hb : Below w.heap.size w w1) : DM Z w1 db D := by
  obtain ⟨C, h1, h2, h3⟩ := h
  exact ⟨C, h1.below hb, fun k hk => ⟨(h2 k hk).1, Nat.lt_of_lt_of_le (h2 k hk).2 hb.size⟩, fun k hk => Nat.lt_of_lt_of_le (h3 k hk) hb.size⟩
theorem DM.less {Z Z' : Nat → Prop} {w : World} {db : Nat} {D : DK} (h : DM Z w db D) (hz : ∀ k, Z' k → Z k) : DM Z' w db D := by
  obtain ⟨C, h1, h2, h3⟩ := h
  exact ⟨C, h1, fun k hk => ⟨fun e => (h2 k hk).1 (hz k e), (h2 k hk).2⟩, fun k hk => h3 k (hz k hk)⟩
/-- blocks that were made since are others' too -/
theorem DM.more {Z : Nat → Prop} {w w1 : World} {db : Nat} {D : DK} (h : DM Z w db D) (hb : Below w.heap.size w w1) : DM (fun k => Z k ∨ (w.heap.size ≤ k ∧ k < w1.heap.size)) w1 db D := by
  obtain ⟨C, h1, h2, h3⟩ := h
  refine ⟨C, h1.below hb, fun k hk => ⟨fun e => ?_, Nat.lt_of_lt_of_le (h2 k hk).2 hb.size⟩, fun k hk => ?_⟩
  · rcases e with e | e
    · exact (h2 k hk).1 e
    · have := (h2 k hk).2; omega
  · rcases hk with hk | hk
    · exact Nat.lt_of_lt_of_le (h3 k hk) hb.size
    · exact hk.2
/-- a disk of the state A, behind a call -/
def DQ (Z : Nat → Prop) (w w' : World) (db : Nat) (A : AK) : Prop := (∃ D, DM Z w' db D ∧ Rel D A) ∧ Fr Z w w'
theorem DQ.of {Z : Nat → Prop} {w w' : World} {db : Nat} {C : Nat → Prop} {D' : DK} {A : AK} (h2 : ∀ k, C k → ¬ Z k ∧ k < w.heap.size) (h3 : ∀ k, Z k → k < w.heap.size) (hc : Chg D' C db w w') (hr : Rel D' A) : DQ Z w w' db A := by
  obtain ⟨hI, hb⟩ := hc
  refine ⟨⟨D', ⟨fun k => (C k ∨ w.heap.size ≤ k) ∧ k < w'.heap.size, hI.mono fun k hk hl => ⟨hk, hl⟩, fun k hk => ⟨fun e => ?_, hk.2⟩, fun k hk => Nat.lt_of_lt_of_le (h3 k hk) hb.size⟩, hr⟩, hb.mono fun k _ hc => (h2 k hc).1⟩
  rcases hk.1 with h | h
  · exact (h2 k h).1 e
  · have := h3 k e; omega
/-- the state lies in bounds -/
def AK.Wf (A : AK) : Prop := ∀ k ∈ A.ks, 0 ≤ k.2.2 ∧ k.2.2 ≤ (k.2.1.length : Int)
theorem Rel.wf {w : World} {C : Nat → Prop} {db : Nat} {D : DK} {A : AK} (h : Rel D A) (hI : DkI w C db D) : A.Wf := by
  intro k hk
  obtain ⟨f, hf, rfl⟩ := List.mem_map.1 (h.pm.mem_iff.2 hk)
  have := (hI.each f hf).su
  exact ⟨by show (0 : Int) ≤ (f.sure : Int); omega, by show (f.sure : Int) ≤ (f.zs.length : Int); omega⟩
theorem Rel.gh {D : DK} {A : AK} (h : Rel D A) (hw : A.Wf) : Rel D A.gh.ak := by
  rw [AK.gh_ak hw]
  exact h
/-- ahead of a changing call -/
def begA (A : AK) (s : ByteArray) : Int := if nmB s = false then 102 else if A.down = true then 100 else if A.fails = 0 then 0 else if A.after = 0 then 101 else 0
def begK (A : AK) (s : ByteArray) : AK := if nmB s = true ∧ A.down = false ∧ A.fails ≠ 0 then (if A.after = 0 then { A with fails := A.fails - 1 } else { A with after := A.after - 1 }) else A
def payB (A : AK) (c : Int) : Bool := pyB A.gh c
theorem Rel.begA_ {D : DK} {A : AK} (h : Rel D A) (hw : A.Wf) (s : ByteArray) : begE D s = begA A s ∧ Rel (begD D s) (begK A s) := by
  obtain ⟨h1, h2⟩ := (h.gh hw).beg s
  refine ⟨h1.trans ?_, ?_⟩
  · unfold ahE begA
    by_cases a : nmB s = false
    · rw [if_pos a, if_pos a]
    rw [if_neg a, if_neg a]
    by_cases b : A.down = true
    · rw [if_pos b, if_pos (show A.gh.down = true from b)]
    rw [if_neg b, if_neg (show ¬ A.gh.down = true from b)]
    by_cases c : A.fails = 0
    · rw [if_pos c, if_pos (Or.inr c : true = false ∨ A.gh.fails = 0)]
    rw [if_neg c, if_neg (show ¬ (true = false ∨ A.gh.fails = 0) from fun x => x.elim (by simp) c)]
    by_cases d : A.after = 0
    · rw [if_pos d, if_pos (show A.gh.after = 0 from d)]
    · rw [if_neg d, if_neg (show ¬ A.gh.after = 0 from d)]
  · have e : (ahR A.gh s true).ak = begK A s := by
      have hk : A.gh.fs.map RF.key = A.ks := by have := congrArg AK.ks (AK.gh_ak hw); exact this
      unfold ahR begK
      by_cases hc : nmB s = true ∧ A.down = false ∧ A.fails ≠ 0
      · rw [if_pos hc, if_pos (show nmB s = true ∧ A.gh.down = false ∧ true = true ∧ A.gh.fails ≠ 0 from ⟨hc.1, hc.2.1, rfl, hc.2.2⟩)]
        by_cases ha : A.after = 0
        · rw [if_pos ha, if_pos (show A.gh.after = 0 from ha)]
          unfold RK.ak
          simp only [hk]
          rfl
        · rw [if_neg ha, if_neg (show ¬ A.gh.after = 0 from ha)]
          unfold RK.ak
          simp only [hk]
          rfl
      · rw [if_neg hc, if_neg (show ¬ (nmB s = true ∧ A.gh.down = false ∧ true = true ∧ A.gh.fails ≠ 0) from fun x => hc ⟨x.1, x.2.1, x.2.2.2⟩)]
        exact AK.gh_ak hw
    rw [e] at h2
    exact h2
end Go.Proofs.YtkfcilandmhomaaDoor

namespace Go.Proofs.YtkfcilandmhomaaDoor
open Go.RowKit
set_option maxRecDepth 8000
/-- a file of the state -/
def lkK (A : AK) (s : ByteArray) : Option Key := A.ks.find? fun k => decide (k.1 = s)
theorem lkK_some {A : AK} {s : ByteArray} {k : Key} (h : lkK A s = some k) : k ∈ A.ks ∧ k.1 = s := by
  unfold lkK at h
  exact ⟨List.mem_of_find?_eq_some h, by have := List.find?_some h; simpa using this⟩
theorem ks_uniq {ks : List Key} (h : ks.Pairwise ltK) {a b : Key} (ha : a ∈ ks) (hb : b ∈ ks) (e : a.1 = b.1) : a = b := by
  obtain ⟨i, hi, rfl⟩ := List.mem_iff_getElem.1 ha
  obtain ⟨j, hj, rfl⟩ := List.mem_iff_getElem.1 hb
  have hp := List.pairwise_iff_getElem.1 h
  have irr : ∀ a b : Key, a.1 = b.1 → ¬ ltK a b := fun a b e h => by
    unfold ltK at h
    rw [e] at h
    exact lessN_asym h h
  rcases Nat.lt_trichotomy i j with h1 | h1 | h1
  · exact absurd (hp i j hi hj h1) (irr _ _ e)
  · subst h1; rfl
  · exact absurd (hp j i hj hi h1) (irr _ _ e.symm)
theorem lkK_mem {A : AK} (hs : A.ks.Pairwise ltK) {k : Key} (h : k ∈ A.ks) : lkK A k.1 = some k := by
  cases hf : lkK A k.1 with
  | none =>
    unfold lkK at hf
    have := List.find?_eq_none.1 hf k h
    simp at this
  | some k2 =>
    obtain ⟨h1, h2⟩ := lkK_some hf
    rw [ks_uniq hs h1 h h2]
theorem Rel.lk {D : DK} {A : AK} (h : Rel D A) (s : ByteArray) : (fnd D s).map FT.key = lkK A s := by
  cases hf : fnd D s with
  | none =>
    symm
    show lkK A s = Option.none
    unfold lkK
    refine List.find?_eq_none.2 fun k hk => ?_
    obtain ⟨f, hfm, rfl⟩ := List.mem_map.1 (h.pm.mem_iff.2 hk)
    unfold fnd at hf
    have := List.find?_eq_none.1 hf f hfm
    exact this
  | some f =>
    obtain ⟨hm, hn⟩ := fnd_at hf
    have h1 := lkK_mem h.so (h.pm.mem_iff.1 (List.mem_map_of_mem (f := FT.key) hm))
    have e : f.key.1 = s := hn
    rw [e] at h1
    rw [h1]
    rfl
/-- a call is paid for -/
def payA (A : AK) (c : Int) : Int := if A.left = -1 ∨ c ≤ A.left then 0 else 100
def payK (A : AK) (c : Int) : AK := if A.left = -1 then A else if c ≤ A.left then { A with left := A.left - c } else { A with down := true, left := -1, fails := 0 }
def payM (A : AK) (c : Int) : Int := if A.left = -1 ∨ c ≤ A.left then c else A.left
theorem Rel.payA_ {D : DK} {A : AK} (h : Rel D A) (c : Int) : payE D c = payA A c ∧ Rel (D.pays c) (payK A c) ∧ payN D c = payM A c := by
  rcases h.ar with ⟨hs, hl⟩ | ⟨hs, hl, h0⟩
  · have e3 : D.pays c = D := by simp [DK.pays, hs]
    refine ⟨by simp [payE, payA, hs, hl], ?_, by simp [payN, payM, hs, hl]⟩
    rw [e3, payK, if_pos hl]
    exact h
  · have hn1 : ¬ A.left = -1 := by omega
    by_cases hle : c ≤ D.units
    · have hle2 : c ≤ A.left := by omega
      have e3 : D.pays c = D.rig D.set (D.units - c) D.after D.calls D.down := by simp [DK.pays, hs, hle]
      refine ⟨by simp [payE, payA, hs, hle, hle2], ?_, by simp [payN, payM, hs, hle, hle2]⟩
      rw [e3, payK, if_neg hn1, if_pos hle2]
      exact ⟨h.pm, h.so, h.dn, .inr ⟨hs, by show A.left - c = D.units - c; omega, by show 0 ≤ D.units - c; omega⟩, h.fl, h.af, ⟨(fun e => by rw [show (D.rig D.set (D.units - c) D.after D.calls D.down).set = D.set from rfl, hs] at e; cases e), h.ok.fail⟩, h.a0⟩
    · have hle2 : ¬ c ≤ A.left := by omega
      have e3 : D.pays c = D.fell := by simp [DK.pays, hs, hle]
      refine ⟨by simp [payE, payA, hs, hle, hle2, hn1], ?_, by
        unfold payN payM
        rw [if_neg (by rw [hs]; simp), if_neg hle, if_neg (fun x => x.elim hn1 hle2), hl]⟩
      rw [e3, payK, if_neg hn1, if_neg hle2]
      exact ⟨h.pm, h.so, rfl, .inl ⟨rfl, rfl⟩, rfl, fun e => absurd rfl e, ⟨fun _ => rfl, fun _ => rfl⟩, by show (0 : Int) ≤ 0; omega⟩
theorem begK_ks (A : AK) (s : ByteArray) : (begK A s).ks = A.ks := by
  unfold begK
  split
  · split <;> rfl
  · rfl
theorem payK_ks (A : AK) (c : Int) : (payK A c).ks = A.ks := by
  unfold payK
  split
  · rfl
  · split <;> rfl
/-- ahead of a call that is about a file -/
def chA (A : AK) (s : ByteArray) : Int := if begA A s = 0 then (if (lkK A s).isSome = true then payA (begK A s) 1 else 103) else begA A s
def chK (A : AK) (s : ByteArray) : AK := if begA A s = 0 ∧ (lkK A s).isSome = true then payK (begK A s) 1 else begK A s
theorem chK_ks (A : AK) (s : ByteArray) : (chK A s).ks = A.ks := by
  unfold chK
  split
  · rw [payK_ks, begK_ks]
  · exact begK_ks A s
theorem Rel.chA_ {D : DK} {A : AK} (h : Rel D A) (hw : A.Wf) (s : ByteArray) : chE D s = chA A s ∧ Rel (chD D s) (chK A s) := by
  obtain ⟨h1, h2⟩ := h.begA_ hw s
  have hl : (fnd D s).isSome = (lkK A s).isSome := by rw [← h.lk s]; cases fnd D s <;> rfl
  obtain ⟨p1, p2, _⟩ := h2.payA_ 1
  unfold chE chD chA chK
  rw [h1, hl]
  by_cases h0 : begA A s = 0
  · rw [if_pos h0, if_pos h0]
    by_cases hs : (lkK A s).isSome = true
    · rw [if_pos hs, if_pos hs, if_pos ⟨h0, hs⟩, if_pos ⟨h0, hs⟩]
      exact ⟨p1, p2⟩
    · rw [if_neg hs, if_neg hs, if_neg (fun x => hs x.2), if_neg (fun x => hs x.2)]
      exact ⟨rfl, h2⟩
  · rw [if_neg h0, if_neg h0, if_neg (fun x => h0 x.1), if_neg (fun x => h0 x.1)]
    exact ⟨rfl, h2⟩
/-- another file in its place -/
def putK (A B : AK) (s : ByteArray) (u : Key → Key) : AK := match lkK A s with | some k => { B with ks := updK s (u k) B.ks } | none => B
def synK (k : Key) : Key := (k.1, k.2.1, (k.2.1.length : Int))
def cutK (n : Nat) (k : Key) : Key := (k.1, k.2.1.take n, ((min k.2.2.toNat (k.2.1.take n).length : Nat) : Int))
def syncK (A : AK) (s : ByteArray) : AK := if chA A s = 0 then putK A (chK A s) s synK else chK A s
def trimK (A : AK) (s : ByteArray) (n : Int) : AK := if chA A s = 0 then putK A (chK A s) s (cutK (max n 0).toNat) else chK A s
def rmK (A : AK) (s : ByteArray) : AK := if chA A s = 0 then { chK A s with ks := remK s A.ks } else chK A s
theorem Rel.sync_ {D : DK} {A : AK} (h : Rel D A) (hw : A.Wf) (s : ByteArray) : Rel (syD D s FT.syn) (syncK A s) := by
  obtain ⟨h1, h2⟩ := h.chA_ hw s
  unfold syD syncK
  rw [h1]
  by_cases h0 : chA A s = 0
  · rw [if_pos h0, if_pos h0, putK, ← h.lk s]
    cases hf : fnd D s with
    | none => exact h2
    | some f => exact h2.upd (s := s) (f' := f.syn) (k := synK f.key) (fnd_at hf).2 rfl
  · rw [if_neg h0, if_neg h0]
    exact h2
theorem Rel.remove_ {D : DK} {A : AK} (h : Rel D A) (hw : A.Wf) (s : ByteArray) : Rel (rmD D s) (rmK A s) := by
  obtain ⟨h1, h2⟩ := h.chA_ hw s
  unfold rmD rmK
  rw [h1]
  by_cases h0 : chA A s = 0
  · rw [if_pos h0, if_pos h0]
    have := h2.rem s
    rw [chK_ks] at this
    exact this
  · rw [if_neg h0, if_neg h0]
    exact h2
end Go.Proofs.YtkfcilandmhomaaDoor
