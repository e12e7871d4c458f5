import Derived.Test.YtkfcilandmhomaaDoorPack32
import Derived.Test.YtkfcilandmhomaaDoorEcE
import Derived.Test.YtkfcilandmhomaaDoorFbA
import Derived.Test.YtkfcilandmhomaaDoorPack17
namespace Go.Proofs.YtkfcilandmhomaaDoor
open Go.RowKit
set_option maxRecDepth 8000
theorem ro_zs (f : RF) : f.ro.zs = f.su ++ f.lo := by
  have h : ∀ l : List Int, (List.range l.length).map (fun j => l.getD j 0) = l := fun l => by
    have := range_getD l 0 l.length (by omega)
    simpa using this
  show (List.range f.su.length).map (fun j => f.su.getD j 0) ++ (List.range f.lo.length).map (fun j => f.lo.getD j 0) = _
  rw [h, h]
theorem ro_key (f : RF) : f.ro.key = f.key := by
  unfold RO.key RF.key
  rw [ro_zs]
  rfl
end Go.Proofs.YtkfcilandmhomaaDoor

namespace Go.Proofs.YtkfcilandmhomaaDoor
open Go.RowKit
set_option maxRecDepth 8000
/-- the program's disk is the reference's -/
structure Rel (D : DK) (A : AK) : Prop where
  pm : (D.fs.map FT.key).Perm A.ks
  so : A.ks.Pairwise ltK
  dn : D.down = A.down
  ar : (D.set = false ∧ A.left = -1) ∨ (D.set = true ∧ A.left = D.units ∧ 0 ≤ D.units)
  fl : D.calls = A.fails
  af : D.calls ≠ 0 → D.after = A.after
  ok : D.Ok
  a0 : 0 ≤ D.after
theorem ak_ks (R : RK) : R.ak.ks = R.fs.map RF.key := rfl
theorem Rel.none {D : DK} {R : RK} (h : Rel D R.ak) {s : ByteArray} (hf : fnd D s = none) : R.no s := by
  intro g hg e
  have h1 : g.key ∈ D.fs.map FT.key := h.pm.mem_iff.2 (List.mem_map.2 ⟨g, hg, rfl⟩)
  obtain ⟨f, hfm, hk⟩ := List.mem_map.1 h1
  have h2 : f.name = s := (congrArg Prod.fst hk).trans e
  unfold fnd at hf
  have := List.find?_eq_none.1 hf f hfm
  simp [h2] at this
theorem Rel.some {D : DK} {R : RK} (h : Rel D R.ak) {s : ByteArray} {f : FT} (hf : fnd D s = some f) : ∃ i g, R.is s i g := by
  obtain ⟨hm, hn⟩ := fnd_at hf
  have h1 : f.key ∈ R.fs.map RF.key := h.pm.mem_iff.1 (List.mem_map.2 ⟨f, hm, rfl⟩)
  obtain ⟨g, hg, hk⟩ := List.mem_map.1 h1
  obtain ⟨i, hi⟩ := List.mem_iff_getElem?.1 hg
  exact ⟨i, g, hi, (congrArg Prod.fst hk).trans hn⟩
theorem Rel.key {D : DK} {R : RK} (h : Rel D R.ak) (hnd : (D.fs.map FT.name).Nodup) {s : ByteArray} {f : FT} (hf : fnd D s = .some f) {i : Nat} {g : RF} (hi : R.is s i g) : f.key = g.key := by
  obtain ⟨hm, hn⟩ := fnd_at hf
  have h1 : g.key ∈ D.fs.map FT.key := h.pm.mem_iff.2 (List.mem_map.2 ⟨g, List.mem_of_getElem? hi.1, rfl⟩)
  obtain ⟨f2, hm2, hk⟩ := List.mem_map.1 h1
  have h2 : f2.name = s := (congrArg Prod.fst hk).trans hi.2
  have : f2 = f := nodup_inj hnd hm2 hm (h2.trans hn.symm)
  rw [← this]
  exact hk
theorem Rel.has {D : DK} {R : RK} (h : Rel D R.ak) (s : ByteArray) : R.has s = (fnd D s).isSome := by
  cases hf : fnd D s with
  | none => exact RK.has_no (h.none hf)
  | some f =>
    obtain ⟨i, g, hi⟩ := h.some hf
    exact RK.has_is hi
theorem key_eqs {f : FT} {g : RF} (h : f.key = g.key) : f.name = g.name ∧ f.zs = g.su ++ g.lo ∧ f.sure = g.su.length := by
  have h1 : f.name = g.name := congrArg Prod.fst h
  have h2 : f.zs = g.su ++ g.lo := congrArg (fun k : Key => k.2.1) h
  have h3 : (f.sure : Int) = (g.su.length : Int) := congrArg (fun k : Key => k.2.2) h
  exact ⟨h1, h2, by omega⟩
/-- ahead of a changing call -/
theorem Rel.beg {D : DK} {R : RK} (h : Rel D R.ak) (s : ByteArray) : begE D s = ahE R s true ∧ Rel (begD D s) (ahR R s true).ak := by
  have hdn : D.down = R.down := h.dn
  have hfl : D.calls = R.fails := h.fl
  have haf := h.af
  cases hn : nmB s with
  | false =>
    have e1 : reachE D s = 102 := by simp [reachE, hn]
    refine ⟨by simp [begE, e1, ahE, hn], ?_⟩
    have e2 : begD D s = D := by simp [begD, e1]
    have e3 : ahR R s true = R := by simp [ahR, hn]
    rw [e2, e3]
    exact h
  | true =>
    cases hd : R.down with
    | true =>
      have e1 : reachE D s = 100 := by simp [reachE, hn, hdn, hd]
      refine ⟨by simp [begE, e1, ahE, hn, hd], ?_⟩
      have e2 : begD D s = D := by simp [begD, e1]
      have e3 : ahR R s true = R := by simp [ahR, hd]
      rw [e2, e3]
      exact h
    | false =>
      have e1 : reachE D s = 0 := by simp [reachE, hn, hdn, hd]
      have e2 : begD D s = D.cnt := by simp [begD, e1]
      by_cases hc : D.calls = 0
      · have hf0 : R.fails = 0 := by omega
        have e4 : D.cnt = D := by simp [DK.cnt, hc]
        have e5 : ahR R s true = R := by simp [ahR, hf0]
        refine ⟨by simp [begE, e1, ahE, hn, hd, hf0, DK.cntB, hc], ?_⟩
        rw [e2, e4, e5]
        exact h
      · have hf0 : R.fails ≠ 0 := by omega
        have ha : D.after = R.after := haf hc
        by_cases h0 : D.after = 0
        · have hra : R.after = 0 := by omega
          have e4 : D.cnt = D.rig D.set D.units D.after (D.calls - 1) D.down := by simp [DK.cnt, hc, h0]
          have e5 : ahR R s true = { R with fails := R.fails - 1 } := by simp [ahR, hn, hd, hf0, hra]
          refine ⟨by simp [begE, e1, ahE, hn, hd, hf0, hra, DK.cntB, hc, h0], ?_⟩
          rw [e2, e4, e5]
          exact ⟨h.pm, h.so, h.dn, h.ar, by show D.calls - 1 = R.fails - 1; omega, fun _ => by show D.after = R.after; exact ha, ⟨h.ok.arm, fun _ => by show D.after = 0; exact h0⟩, h.a0⟩
        · have hra : R.after ≠ 0 := by omega
          have hpos : 0 < D.after := by have := h.a0; omega
          have e4 : D.cnt = D.rig D.set D.units (D.after - 1) D.calls D.down := by simp [DK.cnt, hc, hpos]
          have e5 : ahR R s true = { R with after := R.after - 1 } := by simp [ahR, hn, hd, hf0, hra]
          have hnl : ¬ D.after ≤ 0 := by omega
          refine ⟨by simp [begE, e1, ahE, hn, hd, hf0, hra, DK.cntB, hnl], ?_⟩
          rw [e2, e4, e5]
          exact ⟨h.pm, h.so, h.dn, h.ar, h.fl, fun _ => by show D.after - 1 = R.after - 1; omega, ⟨h.ok.arm, fun e => absurd e hc⟩, by show 0 ≤ D.after - 1; omega⟩
theorem Rel.fell {D : DK} {R : RK} (h : Rel D R.ak) : Rel D.fell R.fallen.ak :=
  ⟨h.pm, h.so, rfl, .inl ⟨rfl, rfl⟩, rfl, fun e => absurd rfl e, ⟨fun _ => rfl, fun _ => rfl⟩, by show (0 : Int) ≤ 0; omega⟩
/-- a call is paid for -/
theorem Rel.pay {D : DK} {R : RK} (h : Rel D R.ak) (c : Int) : payE D c = (if pyB R c = true then 0 else 100) ∧ Rel (D.pays c) (if pyB R c = true then pyR R c else R.fallen).ak ∧ (pyB R c = true → payN D c = c) ∧ (pyB R c = false → payN D c = R.left ∧ R.left < c ∧ 0 ≤ R.left) := by
  rcases h.ar with ⟨hs, hl⟩ | ⟨hs, hl, h0⟩
  · have hl' : R.left = -1 := hl
    have e1 : pyB R c = true := by simp [pyB, hl']
    have e2 : pyR R c = R := if_neg (by omega)
    have e3 : D.pays c = D := by simp [DK.pays, hs]
    refine ⟨by simp [payE, hs, e1], ?_, fun _ => by simp [payN, hs], fun e => by rw [e1] at e; cases e⟩
    rw [e1, e3, if_pos rfl, e2]
    exact h
  · have hl' : R.left = D.units := hl
    by_cases hle : c ≤ D.units
    · have e1 : pyB R c = true := by simp [pyB, hl', hle]
      have e2 : pyR R c = { R with left := R.left - c } := if_pos ⟨by omega, by omega⟩
      have e3 : D.pays c = D.rig D.set (D.units - c) D.after D.calls D.down := by simp [DK.pays, hs, hle]
      refine ⟨by simp [payE, hs, hle, e1], ?_, fun _ => by simp [payN, hs, hle], fun e => by rw [e1] at e; cases e⟩
      rw [e1, e3, if_pos rfl, e2]
      exact ⟨h.pm, h.so, h.dn, .inr ⟨hs, by show R.left - c = D.units - c; omega, by show 0 ≤ D.units - c; omega⟩, h.fl, h.af, ⟨(fun e => by rw [show (D.rig D.set (D.units - c) D.after D.calls D.down).set = D.set from rfl, hs] at e; cases e), h.ok.fail⟩, h.a0⟩
    · have e1 : pyB R c = false := by simp [pyB, hl']; omega
      have e3 : D.pays c = D.fell := by simp [DK.pays, hs, hle]
      refine ⟨by simp [payE, hs, hle, e1], ?_, (fun e => by rw [e1] at e; cases e), fun _ => ⟨by simp [payN, hs, hle, hl'], by omega, by omega⟩⟩
      rw [e1, e3, if_neg (by simp)]
      exact h.fell
/-- ahead of a call that is about a file -/
theorem Rel.ch {D : DK} {R : RK} (h : Rel D R.ak) (s : ByteArray) : chE D s = thE R s ∧ Rel (chD D s) (thR R s).ak := by
  obtain ⟨h1, h2⟩ := h.beg s
  have hh := h.has s
  have hfs : (ahR R s true).fs = R.fs := (ahR_fs R s true).1
  obtain ⟨p1, p2, _, _⟩ := h2.pay 1
  by_cases h0 : begE D s = 0
  · have h0' : ahE R s true = 0 := by rw [← h1]; exact h0
    have hn : ¬ (ahE R s true ≠ 0) := by rw [h0']; simp
    cases hf : (fnd D s).isSome with
    | false =>
      rw [hf] at hh
      have e1 : chE D s = 103 := by simp [chE, h0, hf]
      have e2 : thE R s = 103 := by unfold thE; rw [if_neg hn, if_pos hh]
      have e3 : chD D s = begD D s := by simp [chD, hf]
      have e4 : thR R s = ahR R s true := by unfold thR; rw [if_neg hn, if_pos hh]
      exact ⟨by rw [e1, e2], by rw [e3, e4]; exact h2⟩
    | true =>
      rw [hf] at hh
      have hnf : ¬ (R.has s = false) := by rw [hh]; simp
      have e1 : chE D s = payE (begD D s) 1 := by simp [chE, h0, hf]
      have e2 : thE R s = (if pyB (ahR R s true) 1 = true then 0 else 100) := by unfold thE; rw [if_neg hn, if_neg hnf]
      have e3 : chD D s = (begD D s).pays 1 := by simp [chD, h0, hf]
      have e4 : thR R s = (if pyB (ahR R s true) 1 = true then pyR (ahR R s true) 1 else (ahR R s true).fallen) := by unfold thR; rw [if_neg hn, if_neg hnf]
      exact ⟨by rw [e1, e2]; exact p1, by rw [e3, e4]; exact p2⟩
  · have h0' : ahE R s true ≠ 0 := by rw [← h1]; exact h0
    have e1 : chE D s = begE D s := by simp [chE, h0]
    have e2 : thE R s = ahE R s true := by unfold thE; rw [if_pos h0']
    have e3 : chD D s = begD D s := by simp [chD, h0]
    have e4 : thR R s = ahR R s true := by unfold thR; rw [if_pos h0']
    exact ⟨by rw [e1, e2]; exact h1, by rw [e3, e4]; exact h2⟩
theorem updK_map (s : ByteArray) (f' : FT) (l : List FT) : (l.map fun g => if g.name = s then f' else g).map FT.key = updK s f'.key (l.map FT.key) := by
  unfold updK
  rw [List.map_map, List.map_map]
  refine List.map_congr_left fun g _ => ?_
  have e : (FT.key g).1 = g.name := rfl
  by_cases h : g.name = s
  · simp [Function.comp, h, e]
  · simp [Function.comp, h, e]
theorem updK_rise {s : ByteArray} {k : Key} (hk : k.1 = s) {ks : List Key} (h : ks.Pairwise ltK) : (updK s k ks).Pairwise ltK := by
  unfold updK
  rw [List.pairwise_map]
  refine h.imp fun {a b} hab => ?_
  have e : ∀ x : Key, (if x.1 = s then k else x).1 = x.1 := fun x => by
    by_cases hx : x.1 = s
    · rw [if_pos hx, hk, hx]
    · rw [if_neg hx]
  unfold ltK at hab ⊢
  rw [e a, e b]
  exact hab
/-- a file is another now -/
theorem Rel.upd {D : DK} {A : AK} (h : Rel D A) {s : ByteArray} {f' : FT} {k : Key} (hn : f'.name = s) (hk : f'.key = k) : Rel (D.upd s f') { A with ks := updK s k A.ks } := by
  refine ⟨?_, updK_rise (by rw [← hk]; exact hn) h.so, h.dn, h.ar, h.fl, h.af, ⟨h.ok.arm, h.ok.fail⟩, h.a0⟩
  show ((D.fs.map fun g => if g.name = s then f' else g).map FT.key).Perm (updK s k A.ks)
  rw [updK_map s f', hk]
  exact h.pm.map _
theorem Rel.rem {D : DK} {A : AK} (h : Rel D A) (s : ByteArray) : Rel (D.rem s) { A with ks := remK s A.ks } := by
  refine ⟨?_, h.so.sublist List.filter_sublist, h.dn, h.ar, h.fl, h.af, ⟨h.ok.arm, h.ok.fail⟩, h.a0⟩
  show ((D.fs.filter fun f => !decide (f.name = s)).map FT.key).Perm (remK s A.ks)
  have e : (D.fs.filter fun f => !decide (f.name = s)).map FT.key = remK s (D.fs.map FT.key) := by
    unfold remK
    rw [List.filter_map]
    rfl
  rw [e]
  exact h.pm.filter _
theorem Rel.add {D : DK} {A : AK} (h : Rel D A) {f' : FT} {k : Key} (hk : f'.key = k) (hno : ∀ a ∈ A.ks, k.1 ≠ a.1) : Rel { D with fs := D.fs ++ [f'] } { A with ks := insK k A.ks } := by
  refine ⟨?_, insK_rise k A.ks h.so hno, h.dn, h.ar, h.fl, h.af, ⟨h.ok.arm, h.ok.fail⟩, h.a0⟩
  show ((D.fs ++ [f']).map FT.key).Perm (insK k A.ks)
  rw [List.map_append]
  refine List.Perm.trans ?_ (insK_perm k A.ks).symm
  refine (List.perm_append_comm).trans ?_
  rw [← hk]
  exact h.pm.cons _
theorem Rel.arm {D : DK} {R : RK} (h : Rel D R.ak) (u : Int) : Rel (D.armD u) (armK R u).ak := by
  have hdn : D.down = R.down := h.dn
  cases hd : R.down with
  | true =>
    have e1 : D.armD u = D := by simp [DK.armD, hdn, hd]
    have e2 : armK R u = R := by simp [armK, hd]
    rw [e1, e2]
    exact h
  | false =>
    have e2 : armK R u = { R with left := max u (-1) } := by simp [armK, hd]
    by_cases hu : u < 0
    · have e1 : D.armD u = D.rig false 0 D.after D.calls D.down := by simp [DK.armD, hdn, hd, hu]
      rw [e1, e2]
      exact ⟨h.pm, h.so, h.dn, .inl ⟨rfl, by show max u (-1) = -1; omega⟩, h.fl, h.af, ⟨fun _ => rfl, h.ok.fail⟩, h.a0⟩
    · have e1 : D.armD u = D.rig true u D.after D.calls D.down := by simp [DK.armD, hdn, hd, hu]
      rw [e1, e2]
      exact ⟨h.pm, h.so, h.dn, .inr ⟨rfl, by show max u (-1) = u; omega, by show 0 ≤ u; omega⟩, h.fl, h.af, ⟨(fun e => by cases e), h.ok.fail⟩, h.a0⟩
theorem Rel.fail {D : DK} {R : RK} (h : Rel D R.ak) (a c : Int) : Rel (D.failD a c) (failK R a c).ak := by
  have hdn : D.down = R.down := h.dn
  cases hd : R.down with
  | true =>
    have e1 : D.failD a c = D := by simp [DK.failD, hdn, hd]
    have e2 : failK R a c = R := by simp [failK, hd]
    rw [e1, e2]
    exact h
  | false =>
    by_cases hu : a < 0 ∨ c ≤ 0
    · have e1 : D.failD a c = D.rig D.set D.units 0 0 D.down := by simp [DK.failD, hdn, hd, hu]
      have e2 : failK R a c = { R with after := 0, fails := 0 } := by
        unfold failK
        rw [if_neg (by rw [hd]; simp), if_neg (by omega)]
      rw [e1, e2]
      exact ⟨h.pm, h.so, h.dn, h.ar, rfl, fun e => absurd rfl e, ⟨h.ok.arm, fun _ => rfl⟩, by show (0 : Int) ≤ 0; omega⟩
    · have e1 : D.failD a c = D.rig D.set D.units a c D.down := by
        unfold DK.failD
        rw [if_neg (by rw [hdn, hd]; simp), if_neg hu]
      have e2 : failK R a c = { R with after := a, fails := c } := by
        unfold failK
        rw [if_neg (by rw [hd]; simp), if_pos (by omega)]
      rw [e1, e2]
      exact ⟨h.pm, h.so, h.dn, h.ar, rfl, fun _ => rfl, ⟨h.ok.arm, fun e => by have e' : c = 0 := e; omega⟩, by show 0 ≤ a; omega⟩
/-- the files in their order -/
theorem Rel.order {D : DK} {A : AK} (h : Rel D A) (hnm : ∀ f ∈ D.fs, Nm f.name) (hnd : (D.fs.map FT.name).Nodup) {YS : List FT} (hp : YS.Perm D.fs) (hs : YS.Pairwise fun a b => ¬ cmpN b.name a.name < 0) : YS.map FT.key = A.ks := by
  have hp2 : (YS.map FT.key).Perm A.ks := (hp.map _).trans h.pm
  refine perm_eq_of (R := ltK) (fun a b h g => lessN_asym h g) _ _ hp2 ?_ h.so
  rw [List.pairwise_map]
  have hnd2 : (YS.map FT.name).Nodup := ((hp.map FT.name).nodup_iff).2 hnd
  have hnd3 : YS.Pairwise fun a b => a.name ≠ b.name := by
    have := hnd2
    unfold List.Nodup at this
    rwa [List.pairwise_map] at this
  refine (hs.and hnd3).imp_of_mem ?_
  intro a b ha hb ⟨h1, h2⟩
  have na := hnm a (hp.mem_iff.1 ha)
  have nb := hnm b (hp.mem_iff.1 hb)
  rw [cmp_less nb na] at h1
  exact lessN_tri _ _ (fun e => h2 e.symm) h1
theorem svd_rsK (f : FT) (u : Int) : f.svd u = rsK f.key u := by
  unfold FT.svd rsK FT.svN FT.key
  have : ((f.sure : Int)).toNat = f.sure := by omega
  simp only [this]
/-- both come up again -/
theorem Rel.restart {D Di : DK} {R Ri : RK} {K : LT Int} {YS : List FT} (h : Rel D R.ak) (hnm : ∀ f ∈ D.fs, Nm f.name) (hnd : (D.fs.map FT.name).Nodup) (hp : YS.Perm D.fs) (hs : YS.Pairwise fun a b => ¬ cmpN b.name a.name < 0)
    (hn : Di.fs.map FT.name = D.fs.map FT.name) (he : ∀ (j : Nat) (f : FT), YS[j]? = Option.some f → ∃ f', fnd Di f.name = Option.some f' ∧ f'.key = f.svd (kpU K j)) (hK : RsK R K R.fs.length Ri) : Rel (Di.rig false 0 0 0 false) { Ri with down := false : RK }.ak := by
  have ho : YS.map FT.key = R.fs.map RF.key := h.order hnm hnd hp hs
  have hlen : YS.length = R.fs.length := by have := congrArg List.length ho; simpa using this
  -- the keys behind it, in the order of YS
  have hks : Ri.fs.map RF.key = (List.range YS.length).map fun j => rsK (((YS.map FT.key)[j]?).getD (⟨#[]⟩, [], 0)) (kpU K j) := by
    apply List.ext_getElem?
    intro j
    rw [hK.ks j, ← ho]
    by_cases hj : j < YS.length
    · rw [List.getElem?_map, List.getElem?_eq_getElem hj, List.getElem?_map, List.getElem?_range hj]
      simp only [Option.map_some]
      rw [if_pos (by omega)]
      simp [List.getElem?_eq_getElem hj]
    · rw [List.getElem?_eq_none (by simp; omega), List.getElem?_eq_none (by simp; omega)]
      rfl
  have hndi : (Di.fs.map FT.name).Nodup := by rw [hn]; exact hnd
  obtain ⟨g, hg⟩ : ∃ g : FT → FT, ∀ f, g f = (fnd Di f.name).getD f := ⟨fun f => (fnd Di f.name).getD f, fun f => rfl⟩
  have hgY : (YS.map g).map FT.key = Ri.fs.map RF.key := by
    rw [hks, List.map_map]
    apply List.ext_getElem?
    intro j
    by_cases hj : j < YS.length
    · rw [List.getElem?_map, List.getElem?_map, List.getElem?_range hj, List.getElem?_eq_getElem hj]
      simp only [Option.map_some, Function.comp]
      obtain ⟨f', h1, h2⟩ := he j YS[j] (List.getElem?_eq_getElem hj)
      rw [hg, h1, Option.getD_some, h2, svd_rsK]
      simp [List.getElem?_eq_getElem hj]
    · rw [List.getElem?_eq_none (by simp; omega), List.getElem?_eq_none (by simp; omega)]
  have hgn : ∀ f ∈ YS, (g f).name = f.name ∧ g f ∈ Di.fs := fun f hf => by
    obtain ⟨j, hj⟩ := List.mem_iff_getElem?.1 hf
    obtain ⟨f', h1, _⟩ := he j f hj
    rw [hg, h1, Option.getD_some]
    exact ⟨(fnd_at h1).2, (fnd_at h1).1⟩
  have hpm : (YS.map g).Perm Di.fs := by
    have hsub : (YS.map g).Nodup := by
      have h1 : ((YS.map g).map FT.name).Nodup := by
        rw [List.map_map]
        have : YS.map (FT.name ∘ g) = YS.map FT.name := List.map_congr_left fun f hf => (hgn f hf).1
        rw [this]
        exact ((hp.map FT.name).nodup_iff).2 hnd
      exact (List.pairwise_map.1 h1).imp fun {a b} hab e => hab (by rw [e])
    refine List.Perm.symm ?_
    have hdi : Di.fs.Nodup := (List.pairwise_map.1 hndi).imp fun {a b} hab e => hab (by rw [e])
    refine (List.perm_ext_iff_of_nodup hdi hsub).2 fun x => ⟨fun hx => ?_, fun hx => ?_⟩
    · have h1 : x.name ∈ YS.map FT.name := by
        have h2 : x.name ∈ Di.fs.map FT.name := List.mem_map.2 ⟨x, hx, rfl⟩
        rw [hn] at h2
        exact (hp.map FT.name).mem_iff.2 h2
      obtain ⟨f, hf, hfx⟩ := List.mem_map.1 h1
      have h3 := hgn f hf
      have h4 : g f = x := nodup_inj hndi h3.2 hx (h3.1.trans hfx)
      exact List.mem_map.2 ⟨f, hf, h4⟩
    · obtain ⟨f, hf, rfl⟩ := List.mem_map.1 hx
      exact (hgn f hf).2
  refine ⟨?_, ?_, rfl, .inl ⟨rfl, hK.rg.2.1⟩, hK.rg.2.2.1.symm, fun e => absurd rfl e, ⟨fun _ => rfl, fun _ => rfl⟩, by show (0 : Int) ≤ 0; omega⟩
  · show (Di.fs.map FT.key).Perm (Ri.fs.map RF.key)
    rw [← hgY]
    exact (hpm.map FT.key).symm
  · show (Ri.fs.map RF.key).Pairwise ltK
    rw [hks, List.pairwise_map]
    have h1 : (YS.map FT.key).Pairwise ltK := by rw [ho]; exact h.so
    have h2 : (List.range YS.length).Pairwise (fun i j => i < j) := List.pairwise_lt_range
    refine h2.imp_of_mem fun {i j} hi hj hij => ?_
    have hi' := List.mem_range.1 hi
    have hj' := List.mem_range.1 hj
    have h3 := (List.pairwise_iff_getElem.1 h1) i j (by simpa using hi') (by simpa using hj') hij
    show lessN (rsK _ _).1 (rsK _ _).1 = true
    have e : ∀ k : Key, ∀ u, (rsK k u).1 = k.1 := fun _ _ => rfl
    rw [e, e, List.getElem?_eq_getElem (by simpa using hi'), List.getElem?_eq_getElem (by simpa using hj')]
    exact h3
end Go.Proofs.YtkfcilandmhomaaDoor

namespace Go.Proofs.YtkfcilandmhomaaDoor
open Go.RowKit
set_option maxRecDepth 8000
/-- the blocks of Z stay -/
def Fr (Z : Nat → Prop) (w w' : World) : Prop := But (fun k => ¬ Z k) w w'
theorem Fr.trans {Z : Nat → Prop} {a b c : World} (h : Fr Z a b) (k : Fr Z b c) : Fr Z a c := But.trans h k
theorem Fr.of {Z : Nat → Prop} {w w' : World} (h : Below w.heap.size w w') : Fr Z w w' := But.ofBelow h
/-- which blocks the pair has behind a call -/
def Gro (w : World) (Cd Cr Cd' Cr' : Nat → Prop) : Prop := ∀ k, Cd' k ∨ Cr' k → Cd k ∨ Cr k ∨ w.heap.size ≤ k
theorem Gro.trans {w w1 : World} {Cd Cr Cd1 Cr1 Cd2 Cr2 : Nat → Prop} (h : Gro w Cd Cr Cd1 Cr1) (k : Gro w1 Cd1 Cr1 Cd2 Cr2) (hs : w.heap.size ≤ w1.heap.size) : Gro w Cd Cr Cd2 Cr2 := fun b hb => by
  rcases k b hb with h1 | h1 | h1
  · exact h b (.inl h1)
  · exact h b (.inr h1)
  · exact .inr (.inr (Nat.le_trans hs h1))
theorem Gro.refl (w : World) (Cd Cr : Nat → Prop) : Gro w Cd Cr Cd Cr := fun _ hb => hb.elim .inl fun h => .inr (.inl h)
section
variable {Z : Nat → Prop} {w w1 w1' w2 : World} {pb db rb : Nat} {D : DK} {R : RK} {Cd Cr : Nat → Prop} {s : ByteArray} {e1 e2 : Ending}
end
end Go.Proofs.YtkfcilandmhomaaDoor
