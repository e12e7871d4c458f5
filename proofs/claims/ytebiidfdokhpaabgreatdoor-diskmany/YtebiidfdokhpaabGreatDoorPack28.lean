import Derived.Test.YtebiidfdokhpaabGreatDoorPack27
import Derived.Laws.AppendOwnNone
namespace Go.Proofs.YtebiidfdokhpaabGreatDoor
open Go.RowKit
set_option maxRecDepth 8000
/-- append(l, x...), x nil or not, in a drawn region -/
theorem step_appS {ops : Array Oper} {o : Oper} {a : Act} {w : World} {K : Act → World → Prop} {Q : Exit → Act → World → Prop} {E : Prop}
    (hgd : o.guard = none) (s x : Operand) (t e : TypeId) (i : TypeInfo) (z : Value) (size bytes : Nat) (Kd : Kind t e i z size bytes) (hop : o.op = Op.call { callee := Callee.builtin Builtin.append, args := #[s, x], argTypes := #[t, t] })
    (base : Nat) (v : Value) (n : Nat) (xs : List Value) (hs : a.eval s = v) (hown : w.ownsRow base e size v n xs)
    (p : Option Addr) (m c : Nat) (news : List Value) (hx : a.eval x = .slice p m c) (hsrc : Src w p m c size news) (h1 : ∀ u ∈ news, u.oneCell' = true)
    (h63 : n + m ≤ 140737488355328) (hbytes : (n + m) * bytes ≤ 140737488355328) (hbase : base ≤ w.heap.size)
    (hK : ∀ v' w', w'.ownsRow base e size v' (n + m) (xs ++ news) → w.grownBy w' v.ownBlock → Near w v v' → K (a.put o.dst v') w') :
    if Region.wanted o (yielded ops a.tmps) = true then Oper.wp Tryz.prog o a w K Q else E := by
  rcases hsrc with ⟨rfl, rfl, rfl, rfl⟩ | ⟨ad, rfl, hl, hnews⟩
  · have hw : Region.wanted o (yielded ops a.tmps) = true := by simp [Region.wanted, hgd]
    rw [if_pos hw]
    have hrun := run_append_owned_none (P := Tryz.prog) (w := w) base t o.type e i size Kd.ht Kd.hi v n xs hown
    unfold Oper.wp
    simp [execOp, hop, resolve, invoke, builtin, hs, hx, hrun, Result.andThen]
    exact hK v w (by simpa using hown) ⟨rfl, rfl, rfl, Nat.le_refl _, fun _ _ _ => rfl⟩ (.inl rfl)
  · exact step_app hgd s x t e i z size bytes Kd hop base v n xs hs hown ad m c news hx hl hnews h1 h63 hbytes hbase hK
/-- a file's name has another file now -/
def updK (s : ByteArray) (k' : Key) (ks : List Key) : List Key := ks.map fun k => if k.1 = s then k' else k
/-- what a call made of the reference's disk -/
def RC (A : AK) (C : Nat → Prop) (rb : Nat) (w w' : World) : Prop := (∃ R, R.ak = A ∧ RkI w' (fun k => C k ∨ w.heap.size ≤ k) rb R) ∧ But C w w'
theorem RigR.rc {R : RK} {C : Nat → Prop} {rb : Nat} {w w' : World} (h : RigR R C rb w w') : RC R.ak C rb w w' :=
  ⟨⟨R, rfl, h.1.mono fun _ hk _ => .inl hk⟩, h.2.mono fun k _ e => by have e' : k = rb := e; subst e'; exact h.1.cb⟩
theorem RC.below {A : AK} {C : Nat → Prop} {rb : Nat} {w w' w'' : World} (h : RC A C rb w w') (hb : Below w'.heap.size w' w'') : RC A C rb w w'' := by
  obtain ⟨⟨R, h1, h2⟩, h3⟩ := h
  exact ⟨⟨R, h1, h2.below hb⟩, h3.trans (But.ofBelow hb)⟩
/-- two calls, one behind the other -/
theorem RC.trans {A' : AK} {C : Nat → Prop} {rb : Nat} {w w1 w2 : World} (hb : But C w w1) (k : RC A' (fun k => C k ∨ w.heap.size ≤ k) rb w1 w2) : RC A' C rb w w2 := by
  obtain ⟨⟨R, h1, h2⟩, h3⟩ := k
  refine ⟨⟨R, h1, h2.mono fun k hk _ => ?_⟩, ⟨h3.os.trans hb.os, h3.tape.trans hb.tape, h3.output.trans hb.output, Nat.le_trans hb.size h3.size, fun k hk hx => (h3.block k (Nat.lt_of_lt_of_le hk hb.size) fun e => e.elim hx fun h => by omega).trans (hb.block k hk hx)⟩⟩
  rcases hk with (hk | hk) | hk
  · exact .inl hk
  · exact .inr hk
  · exact .inr (Nat.le_trans hb.size hk)
theorem RC.rigs {R : RK} {A' : AK} {C : Nat → Prop} {rb : Nat} {w w1 w2 : World} (h : RigR R C rb w w1) (k : RC A' C rb w1 w2) : RC A' C rb w w2 := by
  obtain ⟨⟨R', h1, h2⟩, h3⟩ := k
  exact ⟨⟨R', h1, h2.mono fun k hk _ => hk.imp_right fun e => Nat.le_trans h.2.size e⟩, (h.rc.2).trans h3⟩
theorem set_key {R : RK} (hnd : (R.fs.map RF.name).Nodup) {s : ByteArray} {i : Nat} {f f' : RF} (hi : R.is s i f) : (R.fs.set i f').map RF.key = updK s f'.key (R.fs.map RF.key) := by
  rw [set_eq_map hnd hi.1, updK, List.map_map, List.map_map]
  refine List.map_congr_left fun g _ => ?_
  have e : (g.key).1 = g.name := rfl
  by_cases h : g.name = f.name
  · simp [Function.comp, h, e, hi.2]
  · have h2 : ¬ g.name = s := fun e => h (e.trans hi.2.symm)
    simp [Function.comp, h, e, h2]
/-- a file's rows are others now, and the list tells them -/
theorem RkI.put {w w2 w3 : World} {C : Nat → Prop} {rb : Nat} {R : RK} {s : ByteArray} {i : Nat} {f f' : RF} (h : RkI w C rb R) (hi : R.is s i f) (hn : f'.name = f.name) (hb2 : But f.blk w w2) (hb3 : But R.ab w2 w3)
    (hs : OwnBy 0 w2 (.slice f'.sp f'.su.length f'.sc) f'.su) (hl : OwnBy 0 w2 (.slice f'.lp f'.lo.length f'.lc) f'.lo) (hnew : ∀ k, f'.blk k → f.blk k ∨ w.heap.size ≤ k)
    (hne : ∀ g, f'.sb g → ¬ f'.lb g) (hle : f'.su.length + f'.lo.length ≤ 65536) (hby : ∀ z ∈ f'.su ++ f'.lo, 0 ≤ z ∧ z ≤ 255)
    (hrow : w3.ownsRow 0 77 3 (.slice R.p R.fs.length R.c) R.fs.length ((R.fs.set i f').flatMap RF.cells)) : RC { R.ak with ks := updK s f'.key (R.fs.map RF.key) } C rb w w3 := by
  have hfm : f ∈ R.fs := List.mem_of_getElem? hi.1
  have hnab : ∀ k, f'.blk k → ¬ R.ab k := fun k hk hab => by
    rcases hnew k hk with h1 | h1
    · exact (h.low f hfm k h1).2 hab
    · have := h.abl hab; omega
  have hb : But (fun k => f.blk k ∨ R.ab k) w w3 := (hb2.mono fun _ _ e => .inl e).trans (hb3.mono fun _ _ e => .inr e)
  have hI : RfI w3 (fun k => C k ∨ w.heap.size ≤ k) f' :=
    ⟨by rw [hn]; exact (h.each f hfm).nm, ownsRow_keep hs fun g hg hl => hb3.block g hl (hnab g (.inl hg)), ownsRow_keep hl fun g hg hl => hb3.block g hl (hnab g (.inr hg)), fun g hg => (hnew g hg).imp_left fun e => ((h.each f hfm).blk e).1, hne, hle, hby⟩
  refine ⟨⟨{ R with fs := R.fs.set i f' }, ?_, h.upd hi.1 hn hI hrow hb hnew⟩, hb.mono fun k _ e => e.elim (fun e => ((h.each f hfm).blk e).1) (fun e => (h.ca k e).1)⟩
  unfold RK.ak
  simp only [set_key h.nd hi]
def RK.has (R : RK) (s : ByteArray) : Bool := R.fs.any fun f => decide (f.name = s)
def thE (R : RK) (s : ByteArray) : Int := if ahE R s true ≠ 0 then ahE R s true else if R.has s = false then 103 else if pyB (ahR R s true) 1 = true then 0 else 100
def thR (R : RK) (s : ByteArray) : RK := if ahE R s true ≠ 0 then ahR R s true else if R.has s = false then ahR R s true else if pyB (ahR R s true) 1 = true then pyR (ahR R s true) 1 else (ahR R s true).fallen
theorem thR_fs (R : RK) (s : ByteArray) : (thR R s).fs = R.fs ∧ (thR R s).p = R.p ∧ (thR R s).c = R.c := by
  have h1 := ahR_fs R s true
  have h2 := pyR_fs (ahR R s true) 1
  unfold thR
  split
  · exact ⟨h1.1, h1.2.1, h1.2.2.1⟩
  · split
    · exact ⟨h1.1, h1.2.1, h1.2.2.1⟩
    · split
      · exact ⟨h2.1.trans h1.1, h2.2.1.trans h1.2.1, h2.2.2.trans h1.2.2.1⟩
      · exact ⟨h1.1, h1.2.1, h1.2.2.1⟩
def ThP (R : RK) (s : ByteArray) (C : Nat → Prop) (rb : Nat) (w : World) (e : Ending) (w' : World) : Prop :=
  RigR (thR R s) C rb w w' ∧ ((thE R s ≠ 0 ∧ e = .returned (.tuple #[.int .i64 0, .int .i64 (thE R s)])) ∨ (thE R s = 0 ∧ ∃ i f, R.is s i f ∧ e = .returned (.tuple #[.int .i64 (i : Int), .int .i64 0])))
theorem RK.has_no {R : RK} {s : ByteArray} (h : R.no s) : R.has s = false := by
  unfold RK.has
  rw [List.any_eq_false]
  intro f hf
  simpa using h f hf
theorem RK.has_is {R : RK} {s : ByteArray} {i : Nat} {f : RF} (h : R.is s i f) : R.has s = true := List.any_eq_true.2 ⟨f, List.mem_of_getElem? h.1, by simpa using h.2⟩
theorem rthereP_any (R : RK) (s : ByteArray) (w : World) (C : Nat → Prop) (rb : Nat) (hR : RkI w C rb R) (hmx : s.size ≤ 140737488355328) :
    Calls Tryz.prog 64 #[.pointer (some ⟨rb, 0, none⟩), .string s] w fun e w' => ThP R s C rb w e w' := by
  refine (rthere_any R s w C rb hR hmx).mono ?_
  rintro e w' (⟨h0, rfl, hr⟩ | ⟨h0, hno, rfl, hr⟩ | ⟨h0, ⟨i, f, hi⟩, hpy, rfl, hr⟩ | ⟨h0, hpy, i, f, hi, rfl, hr⟩)
  · have e1 : thR R s = ahR R s true := by unfold thR; rw [if_pos h0]
    have e2 : thE R s = ahE R s true := by unfold thE; rw [if_pos h0]
    exact ⟨by rw [e1]; exact hr, .inl ⟨by rw [e2]; exact h0, by rw [e2]⟩⟩
  · have hn : ¬ (ahE R s true ≠ 0) := by rw [h0]; simp
    have e1 : thR R s = ahR R s true := by unfold thR; rw [if_neg hn, if_pos (RK.has_no hno)]
    have e2 : thE R s = 103 := by unfold thE; rw [if_neg hn, if_pos (RK.has_no hno)]
    exact ⟨by rw [e1]; exact hr, .inl ⟨by rw [e2]; decide, by rw [e2]⟩⟩
  · have hn : ¬ (ahE R s true ≠ 0) := by rw [h0]; simp
    have hh : ¬ (R.has s = false) := by rw [RK.has_is hi]; simp
    have hp : ¬ (pyB (ahR R s true) 1 = true) := by rw [hpy]; simp
    have e1 : thR R s = (ahR R s true).fallen := by unfold thR; rw [if_neg hn, if_neg hh, if_neg hp]
    have e2 : thE R s = 100 := by unfold thE; rw [if_neg hn, if_neg hh, if_neg hp]
    exact ⟨by rw [e1]; exact hr, .inl ⟨by rw [e2]; decide, by rw [e2]⟩⟩
  · have hn : ¬ (ahE R s true ≠ 0) := by rw [h0]; simp
    have hh : ¬ (R.has s = false) := by rw [RK.has_is hi]; simp
    have e1 : thR R s = pyR (ahR R s true) 1 := by unfold thR; rw [if_neg hn, if_neg hh, if_pos hpy]
    have e2 : thE R s = 0 := by unfold thE; rw [if_neg hn, if_neg hh, if_pos hpy]
    exact ⟨by rw [e1]; exact hr, .inr ⟨e2, i, f, hi, rfl⟩⟩
end Go.Proofs.YtebiidfdokhpaabGreatDoor

namespace Go.Proofs.YtebiidfdokhpaabGreatDoor
open Go.RowKit
set_option maxRecDepth 8000
theorem cell_kept {w w' : World} {b o : Nat} (h : w'.heap[b]? = w.heap[b]?) : w'.cell? ⟨b, o, none⟩ = w.cell? ⟨b, o, none⟩ := World.cell?_of_block (a := ⟨b, o, none⟩) h
theorem frozen_kept {w w' : World} {b o : Nat} (h : w'.heap[b]? = w.heap[b]?) : w'.frozen? ⟨b, o, none⟩ = w.frozen? ⟨b, o, none⟩ := by
  simp only [World.frozen?, h]
/-- the cells by which a file is reached -/
structure At (w : World) (R : RK) (rb g i : Nat) (f : RF) : Prop where
  r0 : w.cell? ⟨rb, 0, none⟩ = some (.slice (some ⟨g, 0, none⟩) R.fs.length R.c)
  rl : rb < w.heap.size
  a0 : w.cell? ⟨g, i * 3, none⟩ = some (.string f.name)
  a1 : w.cell? ⟨g, i * 3 + 1, none⟩ = some (.slice f.sp f.su.length f.sc)
  a2 : w.cell? ⟨g, i * 3 + 2, none⟩ = some (.slice f.lp f.lo.length f.lc)
  gf : ∀ k, w.frozen? ⟨g, k, none⟩ = false
  gl : g < w.heap.size
theorem RkI.getAt {w : World} {C : Nat → Prop} {rb : Nat} {R : RK} {s : ByteArray} {i : Nat} {f : RF} (h : RkI w C rb R) (hi : R.is s i f) : ∃ g, R.p = some ⟨g, 0, none⟩ ∧ R.ab g ∧ rb ≠ g ∧ i < R.fs.length ∧ R.fs.length ≤ 400 ∧ RfI w C f ∧ At w R rb g i f := by
  obtain ⟨g, hp, hab, hgl, hil, hnc, hfr, hat⟩ := h.at_ hi.1
  have r0 := h.bx.cell 0
  simp at r0
  rw [hp] at r0
  exact ⟨g, hp, hab, fun e => (h.ca g hab).2 e.symm, hil, h.n, h.each f (List.mem_of_getElem? hi.1), r0, h.bx.lt, hat 0 (by omega), hat 1 (by omega), hat 2 (by omega), hfr, hgl⟩
theorem RkI.moveAt {w w' : World} {C : Nat → Prop} {rb : Nat} {R : RK} {s : ByteArray} {i g : Nat} {f : RF} (h : RkI w C rb R) (hi : R.is s i f) (hab : R.ab g) (ha : At w R rb g i f) (hb : But f.blk w w') : At w' R rb g i f := by
  have hfm : f ∈ R.fs := List.mem_of_getElem? hi.1
  have hg := hb.block g ha.gl fun e => (h.low f hfm g e).2 hab
  have hr := hb.block rb ha.rl fun e => (h.low f hfm rb e).1 rfl
  exact ⟨(cell_kept hr).trans ha.r0, Nat.lt_of_lt_of_le ha.rl hb.size, (cell_kept hg).trans ha.a0, (cell_kept hg).trans ha.a1, (cell_kept hg).trans ha.a2, fun k => (frozen_kept hg).trans (ha.gf k), Nat.lt_of_lt_of_le ha.gl hb.size⟩
theorem but_grown {w w' : World} {f : RF} {row : Option Nat} (hg : w.grownBy w' row) (hr : ∀ k, row = some k → f.blk k) : But f.blk w w' := (But.refl f.blk w).grown hg fun k e _ => hr k e
section
variable {w w2 : World} {C : Nat → Prop} {rb : Nat} {R : RK} {s : ByteArray} {i g : Nat} {f f' : RF}
theorem RkI.row2 (h : RkI w C rb R) (hi : R.is s i f) (hb2 : But f.blk w w2) : w2.ownsRow 0 77 3 (.slice R.p R.fs.length R.c) R.fs.length (R.fs.flatMap RF.cells) :=
  ownsRow_keep h.row fun g hg hl => hb2.block g hl fun e => (h.low f (List.mem_of_getElem? hi.1) g e).2 hg
theorem RkI.put2 (h : RkI w C rb R) (hi : R.is s i f) (hab : R.ab g) (hn : f'.name = f.name) (hb2 : But f.blk w w2)
    (hs : OwnBy 0 w2 (.slice f'.sp f'.su.length f'.sc) f'.su) (hl : OwnBy 0 w2 (.slice f'.lp f'.lo.length f'.lc) f'.lo) (hnew : ∀ k, f'.blk k → f.blk k ∨ w.heap.size ≤ k)
    (hne : ∀ g, f'.sb g → ¬ f'.lb g) (hle : f'.su.length + f'.lo.length ≤ 65536) (hby : ∀ z ∈ f'.su ++ f'.lo, 0 ≤ z ∧ z ≤ 255) :
    RC { R.ak with ks := updK s f'.key (R.fs.map RF.key) } C rb w ((w2.setCell ⟨g, i * 3 + 1, none⟩ (.slice f'.sp f'.su.length f'.sc)).setCell ⟨g, i * 3 + 2, none⟩ (.slice f'.lp f'.lo.length f'.lc)) := by
  refine h.put hi hn hb2 (((But.refl R.ab w2).setCell (p := ⟨g, i * 3 + 1, none⟩) (fun _ => hab) _).setCell (p := ⟨g, i * 3 + 2, none⟩) (fun _ => hab) _) hs hl hnew hne hle hby ?_
  rw [flatR_set R.fs i f f' hi.1 hn]
  exact row_put (row_put (h.row2 hi hb2) hab _ _) hab _ _
theorem RkI.putL (h : RkI w C rb R) (hi : R.is s i f) (hab : R.ab g) (hn : f'.name = f.name) (h1 : f'.sp = f.sp) (h2 : f'.su = f.su) (h3 : f'.sc = f.sc) (hb2 : But f.lb w w2)
    (hl : OwnBy 0 w2 (.slice f'.lp f'.lo.length f'.lc) f'.lo) (hnew : ∀ k, f'.lb k → f.lb k ∨ w.heap.size ≤ k)
    (hle : f'.su.length + f'.lo.length ≤ 65536) (hby : ∀ z ∈ f'.su ++ f'.lo, 0 ≤ z ∧ z ≤ 255) :
    RC { R.ak with ks := updK s f'.key (R.fs.map RF.key) } C rb w (w2.setCell ⟨g, i * 3 + 2, none⟩ (.slice f'.lp f'.lo.length f'.lc)) := by
  have hF := h.each f (List.mem_of_getElem? hi.1)
  have hsb : ∀ k, f'.sb k ↔ f.sb k := fun k => by unfold RF.sb; rw [h1, h2, h3]
  refine h.put hi hn (hb2.mono fun k _ e => .inr e) ((But.refl R.ab w2).setCell (p := ⟨g, i * 3 + 2, none⟩) (fun _ => hab) _) ?_ hl ?_ ?_ hle hby ?_
  · rw [h1, h2, h3]
    exact ownsRow_keep hF.s fun k hk hl => hb2.block k hl (hF.ne k hk)
  · rintro k (hk | hk)
    · exact .inl (.inl ((hsb k).1 hk))
    · exact (hnew k hk).imp_left .inr
  · intro k hk hk2
    rcases hnew k hk2 with h4 | h4
    · exact hF.ne k ((hsb k).1 hk) h4
    · have := (hF.s.lt k ((hsb k).1 hk)).2
      omega
  · rw [flatR_setL R.fs i f f' hi.1 hn h1 h2 h3]
    exact row_put (h.row2 hi (hb2.mono fun k _ e => .inr e)) hab _ _
end
end Go.Proofs.YtebiidfdokhpaabGreatDoor

namespace Go.Proofs.YtebiidfdokhpaabGreatDoor
open Go.RowKit
set_option maxRecDepth 8000
/-- behind Sync: the file's bytes are all sure -/
def SyQ (R : RK) (s : ByteArray) (C : Nat → Prop) (rb : Nat) (w : World) (e : Ending) (w' : World) : Prop :=
  e = .returned (.int .i64 (thE R s)) ∧ ((thE R s ≠ 0 ∧ RigR (thR R s) C rb w w') ∨ (thE R s = 0 ∧ ∃ i f, R.is s i f ∧ RC { (thR R s).ak with ks := updK s (s, f.su ++ f.lo, ((f.su ++ f.lo).length : Int)) (R.fs.map RF.key) } C rb w w'))
set_option maxHeartbeats 8000000 in
theorem rsync_any (R : RK) (s : ByteArray) (w : World) (C : Nat → Prop) (rb : Nat) (hR : RkI w C rb R) (hmx : s.size ≤ 140737488355328) :
    Calls Tryz.prog 36 #[.pointer (some ⟨rb, 0, none⟩), .string s] w fun e w' => SyQ R s C rb w e w' := by
  obtain ⟨i0, Kd⟩ := kindB
  have HKd := hid Kd
  have HT := hid (rthereP_any R s w C rb hR hmx)
  clear hR Kd
  go_enter Tryz.func36, Tryz.ntmps36
  go_wp2_with fail
  refine HT.out.mono ?_
  rintro e w2 ⟨hR2, ⟨h0, rfl⟩ | ⟨h0, i, f, hi, rfl⟩⟩
  · obtain ⟨q, hq⟩ : ∃ q, q = thE R s := ⟨_, rfl⟩
    rw [← hq] at h0 ⊢
    have HQ := hid hq
    have h0' : (q == 0) = false := by simpa using h0
    have H0 := hid h0
    have HR2 := hid hR2
    clear hq h0 hR2 HT
    go_wp2
    exact bodyPost_ret (v := .int .i64 q) (by simp [results, Tryz.results36, go_sem]) rfl ⟨by rw [← HQ.out], .inl ⟨by rw [← HQ.out]; exact H0.out, HR2.out⟩⟩
  · have HR2 := hid hR2
    have H0 := hid h0
    have HIs := hid hi
    obtain ⟨R2, hRe⟩ : ∃ R2, R2 = thR R s := ⟨_, rfl⟩
    have HFs : Hid (R2.fs = R.fs) := by show R2.fs = R.fs; rw [hRe]; exact (thR_fs R s).1
    have HIk : Hid (RkI w2 C rb R2) := by show RkI _ _ _ _; rw [hRe]; exact hR2.1
    have HI2 : Hid (R2.is s i f) := ⟨by rw [HFs.out]; exact hi.1, hi.2⟩
    have HRe := hid hRe
    clear hRe hi h0 hR2 HT
    obtain ⟨g, hp, hab, hrg, hil, hnl, hF, hAt⟩ := HIk.out.getAt HI2.out
    have HF := hid hF
    have HAt := hid hAt
    have HAb := hid hab
    have HPp := hid hp
    have hil' : (i : Int) < (R2.fs.length : Int) := by omega
    have hle := HF.out.le
    clear hF hAt hab hp
    obtain ⟨r0, rl, a0, a1, a2, gf, gl⟩ := HAt.out
    have HMv : Hid (∀ wx, But f.blk w2 wx → At wx R2 rb g i f) := fun wx hx => HIk.out.moveAt HI2.out HAb.out HAt.out hx
    have HS : Hid (w2.drew.ownsRow 0 5 1 (.slice f.sp f.su.length f.sc) f.su.length (f.su.map (Value.int .u8))) := HF.out.s
    have HSrc : Hid (Src w2.drew f.lp f.lo.length f.lc 1 (f.lo.map (Value.int .u8))) := HF.out.l.src rfl
    go_upto_region 4 with fail
    refine wp_region_calmE 30 (fun wx => But f.blk w2 wx) [(0, true), (1, true), (2, true), (3, false), (4, true), (5, true), (6, true), (7, true), (8, false), (9, true), (10, true), (11, true), (12, false), (13, true), (14, true), (15, true), (16, false), (17, true), (18, true), (19, true), (20, false)] (.one 21 true [(22, true), (23, true)] (.one 24 false [] .done)) (by kernel_rfl) (by kernel_rfl) (But.refl _ _).drew ?_
    refine wpPre_e rfl rfl (fun K1 hK1 => ?_)
    apply Exists.intro
    refine And.intro (fun wx hx => ?_) ?_
    · go_simp
      try rfl
    go_simp
    refine hK1 _ ?_
    clear hK1 K1
    refine wpPre_e rfl rfl (fun K1 hK1 => ?_)
    apply Exists.intro
    refine And.intro (fun wx hx => ?_) ?_
    · go_simp
      try rfl
    go_simp
    refine hK1 _ ?_
    clear hK1 K1
    refine wpPre_e rfl rfl (fun K1 hK1 => ?_)
    apply Exists.intro
    refine And.intro (fun wx hx => ?_) ?_
    · go_simp
      try rfl
    go_simp
    refine hK1 _ ?_
    clear hK1 K1
    refine wpPre_e rfl rfl (fun K1 hK1 => ?_)
    apply Exists.intro
    refine And.intro (fun wx hx => ?_) ?_
    · have e0 := (HMv.out wx (hx.resolve_left (by simp))).r0
      go_simp
      try rfl
    go_simp
    refine hK1 _ ?_
    clear hK1 K1
    refine wpPre_e rfl rfl (fun K1 hK1 => ?_)
    apply Exists.intro
    refine And.intro (fun wx hx => ?_) ?_
    · go_simp
      try rfl
    go_simp
    refine hK1 _ ?_
    clear hK1 K1
    refine wpPre_e rfl rfl (fun K1 hK1 => ?_)
    apply Exists.intro
    refine And.intro (fun wx hx => ?_) ?_
    · go_simp
      try rfl
    go_simp
    refine hK1 _ ?_
    clear hK1 K1
    refine wpPre_e rfl rfl (fun K1 hK1 => ?_)
    apply Exists.intro
    refine And.intro (fun wx hx => ?_) ?_
    · go_simp
      try rfl
    go_simp
    refine hK1 _ ?_
    clear hK1 K1
    refine wpPre_e rfl rfl (fun K1 hK1 => ?_)
    apply Exists.intro
    refine And.intro (fun wx hx => ?_) ?_
    · go_simp
      try rfl
    go_simp
    refine hK1 _ ?_
    clear hK1 K1
    refine wpPre_e rfl rfl (fun K1 hK1 => ?_)
    apply Exists.intro
    refine And.intro (fun wx hx => ?_) ?_
    · have e0 := (HMv.out wx (hx.resolve_left (by simp))).r0
      go_simp
      try rfl
    go_simp
    refine hK1 _ ?_
    clear hK1 K1
    refine wpPre_e rfl rfl (fun K1 hK1 => ?_)
    apply Exists.intro
    refine And.intro (fun wx hx => ?_) ?_
    · go_simp
      try rfl
    go_simp
    refine hK1 _ ?_
    clear hK1 K1
    refine wpPre_e rfl rfl (fun K1 hK1 => ?_)
    apply Exists.intro
    refine And.intro (fun wx hx => ?_) ?_
    · go_simp
      try rfl
    go_simp
    refine hK1 _ ?_
    clear hK1 K1
    refine wpPre_e rfl rfl (fun K1 hK1 => ?_)
    apply Exists.intro
    refine And.intro (fun wx hx => ?_) ?_
    · go_simp
      try rfl
    go_simp
    refine hK1 _ ?_
    clear hK1 K1
    refine wpPre_e rfl rfl (fun K1 hK1 => ?_)
    apply Exists.intro
    refine And.intro (fun wx hx => ?_) ?_
    · have e0 := (HMv.out wx (hx.resolve_left (by simp))).a1
      go_simp
      try rfl
    go_simp
    refine hK1 _ ?_
    clear hK1 K1
    refine wpPre_e rfl rfl (fun K1 hK1 => ?_)
    apply Exists.intro
    refine And.intro (fun wx hx => ?_) ?_
    · go_simp
      try rfl
    go_simp
    refine hK1 _ ?_
    clear hK1 K1
    refine wpPre_e rfl rfl (fun K1 hK1 => ?_)
    apply Exists.intro
    refine And.intro (fun wx hx => ?_) ?_
    · go_simp
      try rfl
    go_simp
    refine hK1 _ ?_
    clear hK1 K1
    refine wpPre_e rfl rfl (fun K1 hK1 => ?_)
    apply Exists.intro
    refine And.intro (fun wx hx => ?_) ?_
    · go_simp
      try rfl
    go_simp
    refine hK1 _ ?_
    clear hK1 K1
    refine wpPre_e rfl rfl (fun K1 hK1 => ?_)
    apply Exists.intro
    refine And.intro (fun wx hx => ?_) ?_
    · have e0 := (HMv.out wx (hx.resolve_left (by simp))).r0
      go_simp
      try rfl
    go_simp
    refine hK1 _ ?_
    clear hK1 K1
    refine wpPre_e rfl rfl (fun K1 hK1 => ?_)
    apply Exists.intro
    refine And.intro (fun wx hx => ?_) ?_
    · go_simp
      try rfl
    go_simp
    refine hK1 _ ?_
    clear hK1 K1
    refine wpPre_e rfl rfl (fun K1 hK1 => ?_)
    apply Exists.intro
    refine And.intro (fun wx hx => ?_) ?_
    · go_simp
      try rfl
    go_simp
    refine hK1 _ ?_
    clear hK1 K1
    refine wpPre_e rfl rfl (fun K1 hK1 => ?_)
    apply Exists.intro
    refine And.intro (fun wx hx => ?_) ?_
    · go_simp
      try rfl
    go_simp
    refine hK1 _ ?_
    clear hK1 K1
    refine wpPre_e rfl rfl (fun K1 hK1 => ?_)
    apply Exists.intro
    refine And.intro (fun wx hx => ?_) ?_
    · have e0 := (HMv.out wx (hx.resolve_left (by simp))).a2
      go_simp
      try rfl
    go_simp
    refine hK1 _ ?_
    clear hK1 K1
    refine wpPre_nil ?_
    refine wpTr_e rfl (fun K1 hK1 => ?_)
    refine step_appS rfl (.tmp 28) (.tmp 36) 31 5 i0 _ 1 1 HKd.out rfl 0 (.slice f.sp f.su.length f.sc) f.su.length _ rfl HS.out f.lp f.lo.length f.lc _ rfl HSrc.out (one_u8 f.lo) (by omega) (by omega) (Nat.zero_le _) ?_
    intro v3 w3 ho hg hn
    obtain ⟨p3, c3, hv3⟩ := ownsRow_slice ho
    subst hv3
    have HO := hid ho
    have HG := hid hg
    have HN := hid hn
    clear ho hg hn
    have HB3 : Hid (But f.blk w2 w3) := (But.refl f.blk w2).drew.trans (but_grown HG.out fun k e => .inl e)
    have HA3 := hid (HIk.out.moveAt HI2.out HAb.out HAt.out HB3.out)
    have e0 := HA3.out.a1
    have e1 := HA3.out.gf (i * 3 + 1)
    have e2 := HA3.out.gl
    go_simp
    refine hK1 _ _ (fun _ => HB3.out) ?_
    clear hK1 K1
    refine wpPre_e rfl rfl (fun K1 hK1 => ?_)
    apply Exists.intro
    refine And.intro (fun wx hx => ?_) ?_
    · go_simp
      try rfl
    go_simp
    refine hK1 _ ?_
    clear hK1 K1
    refine wpPre_e rfl rfl (fun K1 hK1 => ?_)
    apply Exists.intro
    refine And.intro (fun wx hx => ?_) ?_
    · go_simp
      try rfl
    go_simp
    refine hK1 _ ?_
    clear hK1 K1
    refine wpPre_nil ?_
    refine wpTr_e rfl (fun K1 hK1 => ?_)
    go_simp
    refine hK1 _ _ (fun h => by cases h) ?_
    clear hK1 K1
    refine wpPre_nil ?_
    refine wpTr_done ?_
    clear r0 rl a0 a1 a2 gf gl e0 e1 e2
    have HE : Hid (RC { R2.ak with ks := updK s (s, f.su ++ f.lo, ((f.su ++ f.lo).length : Int)) (R2.fs.map RF.key) } C rb w2 ((w3.setCell ⟨g, i * 3 + 1, none⟩ (.slice p3 (f.su.length + f.lo.length) c3)).setCell ⟨g, i * 3 + 2, none⟩ (.slice none 0 0))) := by
      have hown := HF.out.s.app (ys := f.lo) HO.out
      have hln : (f.su ++ f.lo).length = f.su.length + f.lo.length := List.length_append
      have h := HIk.out.put2 (f' := ⟨f.name, p3, c3, f.su ++ f.lo, none, 0, []⟩) HI2.out HAb.out rfl HB3.out (by show OwnBy 0 w3 (.slice p3 (f.su ++ f.lo).length c3) (f.su ++ f.lo); rw [hln]; exact hown) (World.ownsRow_nil _ _ _ _) ?_ ?_ ?_ ?_
      · have hk : (⟨f.name, p3, c3, f.su ++ f.lo, none, 0, []⟩ : RF).key = (s, f.su ++ f.lo, ((f.su ++ f.lo).length : Int)) := by
          unfold RF.key
          simp [HI2.out.2]
        rw [hk] at h
        simp only [hln] at h ⊢
        exact h
      · rintro k (hk | hk)
        · have hk' : (Value.slice p3 (f.su.length + f.lo.length) c3).ownBlock = some k := by
            have : (Value.slice p3 (f.su ++ f.lo).length c3).ownBlock = some k := hk
            rw [hln] at this
            exact this
          rcases HN.out with h1 | h1
          · exact .inl (.inl (h1.symm.trans hk'))
          · exact .inr (h1 k hk')
        · cases hk
      · intro k _ hk
        cases hk
      · show (f.su ++ f.lo).length + ([] : List Int).length ≤ 65536
        simp
        omega
      · intro z hz
        exact HF.out.by_ z (by simpa using hz)
    have r5 := HA3.out.r0
    have r5l := HA3.out.rl
    have a5 := HA3.out.a2
    have g5 := HA3.out.gf (i * 3 + 2)
    have g5l := HA3.out.gl
    go_wp2
    exact bodyPost_ret (v := .int .i64 0) (by simp [results, Tryz.results36, go_sem]) rfl ⟨by rw [H0.out], .inr ⟨H0.out, i, f, HIs.out, by rw [← HFs.out, ← HRe.out]; exact RC.rigs HR2.out HE.out⟩⟩
end Go.Proofs.YtebiidfdokhpaabGreatDoor
