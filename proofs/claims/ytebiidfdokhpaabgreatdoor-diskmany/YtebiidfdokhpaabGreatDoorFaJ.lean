import Derived.Test.YtebiidfdokhpaabGreatDoorFaI
namespace Go.Proofs.YtebiidfdokhpaabGreatDoor
open Go.RowKit
set_option maxRecDepth 8000
def RF.ro (f : RF) : RO := ⟨f.name, f.sp, f.su.length, f.sc, fun j => f.su.getD j 0, f.lp, f.lo.length, f.lc, fun j => f.lo.getD j 0⟩
def insF (f : RF) : List RF → List RF
  | [] => [f]
  | a :: l => if lessN f.name a.name = true then f :: a :: l else a :: insF f l
theorem insF_ro (f : RF) : ∀ l : List RF, (insF f l).map RF.ro = insR f.ro (l.map RF.ro)
  | [] => rfl
  | a :: l => by
    have h : lessN f.ro.name a.ro.name = lessN f.name a.name := rfl
    simp only [insF, List.map_cons, insR, h]
    split
    · rfl
    · rw [List.map_cons, insF_ro f l]
theorem insF_key (f : RF) : ∀ l : List RF, (insF f l).map RF.key = insK f.key (l.map RF.key)
  | [] => rfl
  | a :: l => by
    have h : lessN f.key.1 a.key.1 = lessN f.name a.name := rfl
    simp only [insF, List.map_cons, insK, h]
    split
    · rfl
    · rw [List.map_cons, insF_key f l]
theorem insF_perm (f : RF) : ∀ l : List RF, (insF f l).Perm (f :: l)
  | [] => List.Perm.refl _
  | a :: l => by
    simp only [insF]
    split
    · exact List.Perm.refl _
    · exact ((insF_perm f l).cons a).trans (List.Perm.swap _ _ _)
theorem flat_ro : ∀ l : List RF, (l.map RF.ro).flatMap elO.cells = l.flatMap RF.cells
  | [] => rfl
  | a :: l => by
    rw [List.map_cons, List.flatMap_cons, List.flatMap_cons, flat_ro l]
    rfl
def z0R : RO := ⟨⟨#[]⟩, none, 0, 0, fun _ => 0, none, 0, 0, fun _ => 0⟩
/-- the list as the older texts have it -/
def RK.lt (R : RK) : LT RO := lOf R.p R.c z0R (R.fs.map RF.ro)
theorem RK.lt_lst (R : RK) : R.lt.lst R.lt.n = R.fs.map RF.ro := lOf_lst R.p R.c z0R (R.fs.map RF.ro)
theorem RK.lt_n (R : RK) : R.lt.n = R.fs.length := by simp [RK.lt, lOf]
theorem RfI.elO {w : World} {C S : Nat → Prop} {f : RF} (h : RfI w C f) (hS : ∀ k, f.blk k → S k) : elO.In w S f.ro := by
  have hle := h.le
  exact ⟨by have := h.nm.le; show f.name.size ≤ _; omega, own_byts h.s (fun g hg => hS g (.inl hg)) (fun z hz => h.by_ z (List.mem_append_left _ hz)) (by omega), own_byts h.l (fun g hg => hS g (.inr hg)) (fun z hz => h.by_ z (List.mem_append_right _ hz)) (by omega), hle⟩
theorem RkI.toLt {w : World} {C : Nat → Prop} {rb : Nat} {R : RK} (h : RkI w C rb R) : LT.In Go.Proofs.YtebiidfdokhpaabGreatDoor.elO w (fun k => 0 ≤ k ∧ k ≠ rb) R.lt := by
  have hn := h.n
  have hitem : ∀ j f, R.fs[j]? = some f → R.lt.item j = f.ro := fun j f hj => by
    show (R.fs.map RF.ro).getD j z0R = f.ro
    rw [List.getD_eq_getElem?_getD, List.getElem?_map, hj]
    rfl
  have hex : ∀ j, j < R.lt.n → ∃ f, R.fs[j]? = some f := fun j hj => ⟨_, List.getElem?_eq_getElem (by rw [← R.lt_n]; exact hj)⟩
  refine ⟨fun h0 => ?_, fun j hj => ?_, ?_, by rw [R.lt_n]; omega, ?_, ?_⟩
  · obtain ⟨f, hf⟩ := hex 0 h0
    obtain ⟨g, hp, hab, hgl, _, _, _, _⟩ := h.at_ hf
    refine ⟨g, 0, hp, ⟨Nat.zero_le _, (h.ca g hab).2⟩, hgl, fun j hj r u hu => ?_⟩
    obtain ⟨fj, hfj⟩ := hex j hj
    obtain ⟨g2, hp2, _, _, _, _, _, hat⟩ := h.at_ hfj
    rw [hp] at hp2
    simp only [Option.some.injEq, Addr.mk.injEq, and_true] at hp2
    subst hp2
    rw [hitem j fj hfj] at hu
    have hr : r < 3 := by
      rcases Nat.lt_or_ge r 3 with h1 | h1
      · exact h1
      · rw [List.getElem?_eq_none (by rw [Go.Proofs.YtebiidfdokhpaabGreatDoor.elO.len]; exact h1)] at hu; cases hu
    rw [show (0 : Nat) + j * Go.Proofs.YtebiidfdokhpaabGreatDoor.elO.size + r = j * 3 + r by show 0 + j * 3 + r = _; omega]
    exact (hat r hr).trans hu
  · obtain ⟨fj, hfj⟩ := hex j hj
    rw [hitem j fj hfj]
    exact (h.each fj (List.mem_of_getElem? hfj)).elO fun k hk => ⟨Nat.zero_le _, (h.low fj (List.mem_of_getElem? hfj) k hk).1⟩
  · rw [R.lt_n]
    show R.fs.length ≤ R.c
    obtain ⟨_, ⟨hv, h0⟩ | ⟨g, cap, cur, hv, hbg, hh, hnc, hcm, _⟩⟩ := id h.row
    · omega
    · simp only [Value.slice.injEq, true_and] at hv
      obtain ⟨_, rfl⟩ := hv
      exact hnc
  · show R.c ≤ maxLen
    obtain ⟨_, ⟨hv, h0⟩ | ⟨g, cap, cur, hv, hbg, hh, hnc, hcm, _⟩⟩ := id h.row
    · simp only [Value.slice.injEq] at hv
      rw [hv.2.2]
      exact Nat.zero_le _
    · simp only [Value.slice.injEq, true_and] at hv
      obtain ⟨_, rfl⟩ := hv
      exact hcm
  · intro hp
    have hp' : R.p = none := hp
    obtain ⟨_, ⟨hv, h0⟩ | ⟨g, cap, cur, hv, hbg, hh, hnc, hcm, _⟩⟩ := id h.row
    · simp only [Value.slice.injEq] at hv
      exact ⟨by rw [R.lt_n]; exact h0, hv.2.2⟩
    · simp only [Value.slice.injEq, true_and] at hv
      rw [hp'] at hv
      cases hv.1
/-- behind put -/
def PtQ (R : RK) (f : RF) (C : Nat → Prop) (rb : Nat) (w w' : World) : Prop := ∃ p c, RkI w' (fun k => C k ∨ w.heap.size ≤ k) rb { R with p := p, c := c, fs := insF f R.fs } ∧ But (fun k => k = rb) w w'
theorem rputR_any (R : RK) (f : RF) (w : World) (C : Nat → Prop) (rb : Nat) (hR : RkI w C rb R) (hf : RfI w C f) (hlow : ∀ k, f.blk k → k ≠ rb ∧ ∀ g ∈ R.fs, ¬ g.blk k) (hno : R.no f.name) (hn : R.fs.length < 400) :
    Calls Tryz.prog 30 #[.pointer (some ⟨rb, 0, none⟩), .agg #[.string f.name, .slice f.sp f.su.length f.sc, .slice f.lp f.lo.length f.lc]] w fun e w' => e = .returned (.tuple #[]) ∧ PtQ R f C rb w w' := by
  have hbx : Box w rb #[.slice R.lt.p R.lt.n R.lt.c, .bool R.down, .int .i64 R.left, .int .i64 R.after, .int .i64 R.fails] 75 := by rw [R.lt_n]; exact hR.bx
  refine (rputK_any R.lt f.ro w 0 rb R.down R.left R.after R.fails hbx hR.toLt (hf.elO fun k hk => ⟨Nat.zero_le _, (hlow k hk).1⟩) (Nat.zero_le _) (by rw [R.lt_n]; omega)).mono ?_
  rintro e w' ⟨rfl, p, c, q1, _, q3, q4⟩
  refine ⟨rfl, p, c, ?_, q3⟩
  rw [R.lt_lst, R.lt_n, ← insF_ro, flat_ro] at q4
  rw [R.lt_n] at q1
  have hlen : (insF f R.fs).length = R.fs.length + 1 := by have := (insF_perm f R.fs).length_eq; simpa using this
  have hmem : ∀ g ∈ insF f R.fs, g = f ∨ g ∈ R.fs := fun g hg => List.mem_cons.1 ((insF_perm f R.fs).mem_iff.1 hg)
  have hlo : ∀ k, (Value.slice p (R.fs.length + 1) c).ownBlock = some k → w.heap.size ≤ k := fun k hk => (q4.lt k hk).1
  have hrl := hR.bx.lt
  have hall : ∀ g ∈ insF f R.fs, RfI w C g ∧ ∀ k, g.blk k → k ≠ rb := fun g hg => by
    rcases hmem g hg with rfl | h
    · exact ⟨hf, fun k hk => (hlow k hk).1⟩
    · exact ⟨hR.each g h, fun k hk => (hR.low g h k hk).1⟩
  refine ⟨?_, ?_, .inl hR.cb, ?_, fun g hg => ?_, fun g hg k hk => ⟨(hall g hg).2 k hk, fun e => ?_⟩, ?_, ?_, by show (insF f R.fs).length ≤ 400; omega, hR.bl, hR.ba, hR.bf⟩
  · show Box w' rb #[.slice p (insF f R.fs).length c, _, _, _, _] _
    rw [hlen]
    exact q1
  · show w'.ownsRow 0 _ 3 (.slice p (insF f R.fs).length c) (insF f R.fs).length _
    rw [hlen]
    obtain ⟨h2, h3⟩ := q4
    exact ⟨h2, h3.imp_right fun ⟨g, cap, cur, e1, _, e3⟩ => ⟨g, cap, cur, e1, Nat.zero_le _, e3⟩⟩
  · intro k hk
    have hk' : (Value.slice p (insF f R.fs).length c).ownBlock = some k := hk
    rw [hlen] at hk'
    have := hlo k hk'
    exact ⟨.inr this, by omega⟩
  · exact (hall g hg).1.kept (fun k hk => q3.block k ((hall g hg).1.blk hk).2 ((hall g hg).2 k hk)) (fun k hk => .inl ((hall g hg).1.blk hk).1)
  · have e' : (Value.slice p (insF f R.fs).length c).ownBlock = some k := e
    rw [hlen] at e'
    have h1 := hlo k e'
    have h2 := ((hall g hg).1.blk hk).2
    omega
  · refine ((insF_perm f R.fs).pairwise_iff (fun {a b} h k h1 h2 => h k h2 h1)).2 (List.pairwise_cons.2 ⟨fun g hg k hk => (hlow k hk).2 g hg, hR.apart⟩)
  · refine ((insF_perm f R.fs).map RF.name).nodup_iff.2 ?_
    rw [List.map_cons, List.nodup_cons]
    refine ⟨fun h => ?_, hR.nd⟩
    obtain ⟨g, hg, e⟩ := List.mem_map.1 h
    exact hno g hg e
/-- a file's loose bytes are others now: which list there is then -/
theorem RkI.putX {w w2 : World} {C : Nat → Prop} {rb : Nat} {R : RK} {s : ByteArray} {i g : Nat} {f f' : RF} (h : RkI w C rb R) (hi : R.is s i f) (hab : R.ab g) (hn : f'.name = f.name) (h1 : f'.sp = f.sp) (h2 : f'.su = f.su) (h3 : f'.sc = f.sc) (hb2 : But f.lb w w2)
    (hl : OwnBy 0 w2 (.slice f'.lp f'.lo.length f'.lc) f'.lo) (hnew : ∀ k, f'.lb k → f.lb k ∨ w.heap.size ≤ k)
    (hle : f'.su.length + f'.lo.length ≤ 65536) (hby : ∀ z ∈ f'.su ++ f'.lo, 0 ≤ z ∧ z ≤ 255) :
    RkI (w2.setCell ⟨g, i * 3 + 2, none⟩ (.slice f'.lp f'.lo.length f'.lc)) (fun k => C k ∨ w.heap.size ≤ k) rb { R with fs := R.fs.set i f' } ∧ But C w (w2.setCell ⟨g, i * 3 + 2, none⟩ (.slice f'.lp f'.lo.length f'.lc)) := by
  have hfm := List.mem_of_getElem? hi.1
  have hF := h.each f hfm
  have hsb : ∀ k, f'.sb k ↔ f.sb k := fun k => by unfold RF.sb; rw [h1, h2, h3]
  have hb2' : But f.blk w w2 := hb2.mono fun k _ e => .inr e
  have hb3 : But R.ab w2 (w2.setCell ⟨g, i * 3 + 2, none⟩ (.slice f'.lp f'.lo.length f'.lc)) := (But.refl R.ab w2).setCell (p := ⟨g, i * 3 + 2, none⟩) (fun _ => hab) _
  have hnew' : ∀ k, f'.blk k → f.blk k ∨ w.heap.size ≤ k := by
    rintro k (hk | hk)
    · exact .inl (.inl ((hsb k).1 hk))
    · exact (hnew k hk).imp_left .inr
  have hnab : ∀ k, f'.blk k → ¬ R.ab k := fun k hk hab => by
    rcases hnew' k hk with h1 | h1
    · exact (h.low f hfm k h1).2 hab
    · have := h.abl hab; omega
  have hb : But (fun k => f.blk k ∨ R.ab k) w (w2.setCell ⟨g, i * 3 + 2, none⟩ (.slice f'.lp f'.lo.length f'.lc)) := (hb2'.mono fun _ _ e => .inl e).trans (hb3.mono fun _ _ e => .inr e)
  have hs2 : OwnBy 0 w2 (.slice f'.sp f'.su.length f'.sc) f'.su := by
    rw [h1, h2, h3]
    exact ownsRow_keep hF.s fun k hk hl => hb2.block k hl (hF.ne k hk)
  have hI : RfI (w2.setCell ⟨g, i * 3 + 2, none⟩ (.slice f'.lp f'.lo.length f'.lc)) (fun k => C k ∨ w.heap.size ≤ k) f' := by
    refine ⟨by rw [hn]; exact hF.nm, ownsRow_keep hs2 fun k hk hl => hb3.block k hl (hnab k (.inl hk)), ownsRow_keep hl fun k hk hl => hb3.block k hl (hnab k (.inr hk)), fun k hk => (hnew' k hk).imp_left fun e => (hF.blk e).1, ?_, hle, hby⟩
    intro k hk hk2
    rcases hnew k hk2 with h4 | h4
    · exact hF.ne k ((hsb k).1 hk) h4
    · have := (hF.s.lt k ((hsb k).1 hk)).2
      omega
  refine ⟨h.upd hi.1 hn hI ?_ hb hnew', hb.mono fun k _ e => e.elim (fun e => (hF.blk e).1) (fun e => (h.ca k e).1)⟩
  rw [flatR_setL R.fs i f f' hi.1 hn h1 h2 h3]
  exact row_put (h.row2 hi hb2') hab _ _
end Go.Proofs.YtebiidfdokhpaabGreatDoor
