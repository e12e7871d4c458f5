import Derived.Test.YtkfcilandmhomaaDoorPack27
import Derived.Laws.AppendOwnNone
namespace Go.Proofs.YtkfcilandmhomaaDoor
open Go.RowKit
set_option maxRecDepth 8000
/-- append(l, x...), x nil or not, in a drawn region -/
theorem step_appS {ops : Array Oper} {o : Oper} {a : Act} {w : World} {K : Act → World → Prop} {Q : Exit → Act → World → Prop} {E : Prop}
    (hgd : o.guard = none) (s x : Operand) (t e : TypeId) (i : TypeInfo) (z : Value) (size bytes : Nat) (Kd : Kind t e i z size bytes) (hop : o.op = Op.call { callee := Callee.builtin Builtin.append, args := #[s, x], argTypes := #[t, t] })
    (base : Nat) (v : Value) (n : Nat) (xs : List Value) (hs : a.eval s = v) (hown : w.ownsRow base e size v n xs)
    (p : Option Addr) (m c : Nat) (news : List Value) (hx : a.eval x = .slice p m c) (hsrc : Src w p m c size news) (h1 : ∀ u ∈ news, u.oneCell' = true)
    (h63 : n + m ≤ 140737488355328) (hbytes : (n + m) * bytes ≤ 140737488355328) (hbase : base ≤ w.heap.size)
    (hK : ∀ v' w', w'.ownsRow base e size v' (n + m) (xs ++ news) → w.grownBy w' v.ownBlock → Near w v v' → K (a.put o.dst v') w') :
    if Region.wanted o (yielded ops a.tmps) = true then Oper.wp Tryd.prog o a w K Q else E := by
  rcases hsrc with ⟨rfl, rfl, rfl, rfl⟩ | ⟨ad, rfl, hl, hnews⟩
  · have hw : Region.wanted o (yielded ops a.tmps) = true := by simp [Region.wanted, hgd]
    rw [if_pos hw]
    have hrun := run_append_owned_none (P := Tryd.prog) (w := w) base t o.type e i size Kd.ht Kd.hi v n xs hown
    unfold Oper.wp
    simp [execOp, hop, resolve, invoke, builtin, hs, hx, hrun, Result.andThen]
    exact hK v w (by simpa using hown) ⟨rfl, rfl, rfl, Nat.le_refl _, fun _ _ _ => rfl⟩ (.inl rfl)
  · exact step_app hgd s x t e i z size bytes Kd hop base v n xs hs hown ad m c news hx hl hnews h1 h63 hbytes hbase hK
/-- a file's name has another file now -/
def updK (s : ByteArray) (k' : Key) (ks : List Key) : List Key := ks.map fun k => if k.1 = s then k' else k
theorem set_key {R : RK} (hnd : (R.fs.map RF.name).Nodup) {s : ByteArray} {i : Nat} {f f' : RF} (hi : R.is s i f) : (R.fs.set i f').map RF.key = updK s f'.key (R.fs.map RF.key) := by
  rw [set_eq_map hnd hi.1, updK, List.map_map, List.map_map]
  refine List.map_congr_left fun g _ => ?_
  have e : (g.key).1 = g.name := rfl
  by_cases h : g.name = f.name
  · simp [Function.comp, h, e, hi.2]
  · have h2 : ¬ g.name = s := fun e => h (e.trans hi.2.symm)
    simp [Function.comp, h, e, h2]
def RK.has (R : RK) (s : ByteArray) : Bool := R.fs.any fun f => decide (f.name = s)
def thE (R : RK) (s : ByteArray) : Int := if ahE R s true ≠ 0 then ahE R s true else if R.has s = false then 103 else if pyB (ahR R s true) 1 = true then 0 else 100
def thR (R : RK) (s : ByteArray) : RK := if ahE R s true ≠ 0 then ahR R s true else if R.has s = false then ahR R s true else if pyB (ahR R s true) 1 = true then pyR (ahR R s true) 1 else (ahR R s true).fallen
theorem thR_fs (R : RK) (s : ByteArray) : (thR R s).fs = R.fs ∧ (thR R s).p = R.p ∧ (thR R s).c = R.c := by
  have h1 := ahR_fs R s true
  have h2 := pyR_fs (ahR R s true) 1
  unfold thR
  split
  · exact ⟨h1.1, h1.2.1, h1.2.2.1⟩
  · split
    · exact ⟨h1.1, h1.2.1, h1.2.2.1⟩
    · split
      · exact ⟨h2.1.trans h1.1, h2.2.1.trans h1.2.1, h2.2.2.trans h1.2.2.1⟩
      · exact ⟨h1.1, h1.2.1, h1.2.2.1⟩
theorem RK.has_no {R : RK} {s : ByteArray} (h : R.no s) : R.has s = false := by
  unfold RK.has
  rw [List.any_eq_false]
  intro f hf
  simpa using h f hf
theorem RK.has_is {R : RK} {s : ByteArray} {i : Nat} {f : RF} (h : R.is s i f) : R.has s = true := List.any_eq_true.2 ⟨f, List.mem_of_getElem? h.1, by simpa using h.2⟩
end Go.Proofs.YtkfcilandmhomaaDoor

namespace Go.Proofs.YtkfcilandmhomaaDoor
open Go.RowKit
set_option maxRecDepth 8000
theorem cell_kept {w w' : World} {b o : Nat} (h : w'.heap[b]? = w.heap[b]?) : w'.cell? ⟨b, o, none⟩ = w.cell? ⟨b, o, none⟩ := World.cell?_of_block (a := ⟨b, o, none⟩) h
theorem frozen_kept {w w' : World} {b o : Nat} (h : w'.heap[b]? = w.heap[b]?) : w'.frozen? ⟨b, o, none⟩ = w.frozen? ⟨b, o, none⟩ := by
  simp only [World.frozen?, h]
/-- the cells by which a file is reached -/
structure At (w : World) (R : RK) (rb g i : Nat) (f : RF) : Prop where
  r0 : w.cell? ⟨rb, 0, none⟩ = some (.slice (some ⟨g, 0, none⟩) R.fs.length R.c)
  rl : rb < w.heap.size
  a0 : w.cell? ⟨g, i * 3, none⟩ = some (.string f.name)
  a1 : w.cell? ⟨g, i * 3 + 1, none⟩ = some (.slice f.sp f.su.length f.sc)
  a2 : w.cell? ⟨g, i * 3 + 2, none⟩ = some (.slice f.lp f.lo.length f.lc)
  gf : ∀ k, w.frozen? ⟨g, k, none⟩ = false
  gl : g < w.heap.size
theorem but_grown {w w' : World} {f : RF} {row : Option Nat} (hg : w.grownBy w' row) (hr : ∀ k, row = some k → f.blk k) : But f.blk w w' := (But.refl f.blk w).grown hg fun k e _ => hr k e
section
variable {w w2 : World} {C : Nat → Prop} {rb : Nat} {R : RK} {s : ByteArray} {i g : Nat} {f f' : RF}
end
end Go.Proofs.YtkfcilandmhomaaDoor

namespace Go.Proofs.YtkfcilandmhomaaDoor
open Go.RowKit
set_option maxRecDepth 8000
end Go.Proofs.YtkfcilandmhomaaDoor
